/- Layer 12: All in its order beside the reference's list; the law's 'same'. -/
import Derived.Test.YtmlocfojmncghaaURNodP
import Derived.Laws.MakeOwn
namespace Go.Proofs.Ytmlocfojmncghaa
open Go.RowKit
/-- the order of All -/
def ltP (b : Nat) (p q : Pth) : Prop := pvU b p < pvU b q ∨ (pvU b p = pvU b q ∧ p.length < q.length)
theorem pv_mono (b : Nat) (hb : b ≤ 128) {p q : Pth} (h : p <+: q) (hq : q.length ≤ b) : pvU b p ≤ pvU b q := by
  have hp : p.length ≤ b := Nat.le_trans h.length_le hq
  have e : pvU b p &&& pvU b q = pvU b p := by
    refine Nat.eq_of_testBit_eq fun i => ?_
    rw [Nat.testBit_and, pv_bit b hb p hp, pv_bit b hb q hq]
    by_cases h1 : i < b
    · rw [decide_eq_true h1, Bool.true_and, Bool.true_and]
      obtain ⟨r, rfl⟩ := h
      by_cases h2 : b - 1 - i < p.length
      · have : (p ++ r).getD (b - 1 - i) false = p.getD (b - 1 - i) false := by simp [List.getD, List.getElem?_append_left h2]
        rw [this, Bool.and_self]
      · have : p.getD (b - 1 - i) false = false := by simp [List.getD, List.getElem?_eq_none (Nat.le_of_not_lt h2)]
        rw [this]; rfl
    · rw [decide_eq_false h1]; rfl
  rw [← e]
  exact Nat.and_le_right
theorem lt_bitE {x y : Nat} (i : Nat) (hx : x.testBit i = false) (hy : y.testBit i = true) (hxy : ∀ j, i < j → x.testBit j = y.testBit j) : x < y := by
  have h1 : x / 2 ^ (i + 1) = y / 2 ^ (i + 1) := Nat.eq_of_testBit_eq fun j => by
    rw [Nat.testBit_div_two_pow, Nat.testBit_div_two_pow]
    exact hxy _ (by omega)
  have h2 : x % 2 ^ (i + 1) < 2 ^ i := Nat.lt_pow_two_of_testBit _ fun j hj => by
    rw [Nat.testBit_mod_two_pow]
    rcases Nat.eq_or_lt_of_le hj with e | e
    · subst e; rw [hx]; simp
    · rw [decide_eq_false (show ¬ j < i + 1 by omega)]; rfl
  have h3 : 2 ^ i ≤ y % 2 ^ (i + 1) := Nat.ge_two_pow_of_testBit (by rw [Nat.testBit_mod_two_pow, hy, decide_eq_true (Nat.lt_succ_self i)]; rfl)
  have h4 := Nat.div_add_mod x (2 ^ (i + 1))
  have h5 := Nat.div_add_mod y (2 ^ (i + 1))
  rw [h1] at h4
  generalize 2 ^ (i + 1) * (y / 2 ^ (i + 1)) = z at h4 h5
  omega
theorem pv_split (b : Nat) (hb : b ≤ 128) {p q r : Pth} (hq : p ++ [false] <+: q) (hr : p ++ [true] <+: r) (lq : q.length ≤ b) (lr : r.length ≤ b) : pvU b q < pvU b r := by
  obtain ⟨s, rfl⟩ := hq
  obtain ⟨t, rfl⟩ := hr
  have h1 : p.length < b := by simp at lq; omega
  refine lt_bitE (b - 1 - p.length) ?_ ?_ fun j hj => ?_
  · rw [pv_bit b hb _ lq, show b - 1 - (b - 1 - p.length) = p.length by omega]
    simp [List.getD]
  · rw [pv_bit b hb _ lr, show b - 1 - (b - 1 - p.length) = p.length by omega, decide_eq_true (show b - 1 - p.length < b by omega)]
    simp [List.getD]
  · rw [pv_bit b hb _ lq, pv_bit b hb _ lr]
    by_cases h2 : j < b
    · have h3 : b - 1 - j < p.length := by omega
      simp [List.getD, List.getElem?_append_left h3, List.append_assoc]
    · rw [decide_eq_false h2]; rfl
theorem all_asc (b : Nat) (hb : b ≤ 128) {th : Pth → Bool} {c : Pth → Nat} (hW : CWf c th) (hth : ∀ p, th p = true → p.length ≤ b) : ∀ (d : Nat) (p : Pth), (allU th c d p).Pairwise (ltP b)
  | 0, _ => List.Pairwise.nil
  | d + 1, p => by
    unfold allU
    by_cases hc : c p = 0
    · rw [if_pos hc]; exact List.Pairwise.nil
    · rw [if_neg hc]
      have hmem : ∀ x q, q ∈ allU th c d (p ++ [x]) → th q = true ∧ p ++ [x] <+: q := fun x q hq => by
        have := (all_mem hW d _ _).1 hq
        exact ⟨this.1, this.2.1⟩
      refine List.pairwise_append.2 ⟨?_, List.pairwise_append.2 ⟨all_asc b hb hW hth d _, all_asc b hb hW hth d _, fun q hq r hr => ?_⟩, fun q hq r hr => ?_⟩
      · split
        · exact List.pairwise_singleton _ _
        · exact List.Pairwise.nil
      · obtain ⟨h1, h2⟩ := hmem _ _ hq
        obtain ⟨h3, h4⟩ := hmem _ _ hr
        exact .inl (pv_split b hb h2 h4 (hth _ h1) (hth _ h3))
      · have hq' : q = p := by
          split at hq
          · exact List.mem_singleton.1 hq
          · cases hq
        subst hq'
        have key : ∃ x, r ∈ allU th c d (q ++ [x]) := by
          rcases List.mem_append.1 hr with h | h
          · exact ⟨_, h⟩
          · exact ⟨_, h⟩
        obtain ⟨x, hx⟩ := key
        obtain ⟨h1, h2⟩ := hmem _ _ hx
        have h3 : q <+: r := (List.prefix_append q [x]).trans h2
        have h4 := h2.length_le
        simp at h4
        rcases Nat.lt_or_eq_of_le (pv_mono b hb h3 (hth _ h1)) with h5 | h5
        · exact .inl h5
        · exact .inr ⟨h5, by omega⟩
theorem ltP_irr (b : Nat) (p : Pth) : ¬ ltP b p p := fun h => by unfold ltP at h; omega
theorem ltP_asy (b : Nat) {p q : Pth} (h : ltP b p q) : ¬ ltP b q p := fun k => by unfold ltP at h k; omega
theorem sorted_ext (b : Nat) : ∀ (K L : List Pth), K.Pairwise (ltP b) → L.Pairwise (ltP b) → (∀ q, q ∈ K ↔ q ∈ L) → K = L
  | [], [], _, _, _ => rfl
  | [], y :: L, _, _, h => by have := (h y).2 (List.mem_cons_self ..); cases this
  | x :: K, [], _, _, h => by have := (h x).1 (List.mem_cons_self ..); cases this
  | x :: K, y :: L, hK, hL, h => by
    rw [List.pairwise_cons] at hK hL
    have e : x = y := by
      rcases List.mem_cons.1 ((h x).1 (List.mem_cons_self ..)) with h1 | h1
      · exact h1
      · rcases List.mem_cons.1 ((h y).2 (List.mem_cons_self ..)) with h2 | h2
        · exact h2.symm
        · exact absurd (hK.1 y h2) (ltP_asy b (hL.1 x h1))
    subst e
    congr 1
    refine sorted_ext b K L hK.2 hL.2 fun q => ?_
    have hq := h q
    rw [List.mem_cons, List.mem_cons] at hq
    constructor
    · intro h1
      rcases hq.1 (.inr h1) with h2 | h2
      · subst h2; exact absurd (hK.1 q h1) (ltP_irr b q)
      · exact h2
    · intro h1
      rcases hq.2 (.inr h1) with h2 | h2
      · subst h2; exact absurd (hL.1 q h1) (ltP_irr b q)
      · exact h2
/-- the row of All is the reference's -/
theorem RelE.row {b : Nat} {m : Pth → Option Int} {L : List PE} (h : RelE b m L) (hb : b ≤ 128) {K : List Pth} {idf : Pth → Int} (hK : K.Pairwise (ltP b)) (hm : ∀ q, q ∈ K ↔ (m q).isSome = true) (hid : ∀ p i, m p = some i → idf p = i) : K.length = L.length ∧ rowAllU b idf K = rowE L := by
  have hp : (L.map fun e => pthU b e.v e.n).Pairwise (ltP b) := by
    rw [List.pairwise_map]
    refine List.Pairwise.imp_of_mem ?_ h.asc
    intro a c ha hc hlt
    unfold ltP
    rw [h.val hb ha, h.val hb hc, pthU_len, pthU_len]
    exact hlt
  have e : K = L.map fun e => pthU b e.v e.n := sorted_ext b _ _ hK hp fun q => (hm q).trans ((h.key hb).2 q).symm
  subst e
  refine ⟨by rw [List.length_map], ?_⟩
  have key : ∀ e ∈ L, ([.int .u64 (hi (pvU b (pthU b e.v e.n))), .int .u64 (lo (pvU b (pthU b e.v e.n))), .int .i64 ((pthU b e.v e.n).length : Int), .int .i64 (idf (pthU b e.v e.n))] : List Value) = e.cells := fun e he => by
    rw [h.val hb he, pthU_len, hid _ _ (h.pre e he).2]; rfl
  clear hp hm hK h
  unfold rowAllU rowE
  rw [List.flatMap_map]
  induction L with
  | nil => rfl
  | cons x L ih =>
    rw [List.flatMap_cons, List.flatMap_cons, key x (List.mem_cons_self ..), ih fun e he => key e (List.mem_cons_of_mem _ he)]
/-- what All answers, beside the reference's list -/
def AllE : Prop := ∀ (w : World) (X b G : Nat) (F : Nat → Prop) (m : Pth → Option Int) (L : List PE), TrieS w X b F m G → RelE b m L → b ≤ 128 → G ≤ 1000 → Calls Try.prog 29 #[.pointer (some ⟨X, 0, none⟩)] w fun e w' =>
  ∃ A cap, e = .returned (.slice A L.length cap) ∧ w'.ownsRow w.heap.size 138 4 (.slice A L.length cap) L.length (rowE L) ∧ Below w.heap.size w w'
set_option maxRecDepth 100000 in
set_option maxHeartbeats 4000000 in
theorem all_of_appE (hApp : AppC) : AllE := by
  intro w X bits G F m L0 hS hrel hb8 hG
  have hsh : ShortU bits m := fun p hp => by
    obtain ⟨e, he, h⟩ := hrel.all p hp
    rw [← h, pthU_len]; exact (hrel.ok e he).2
  obtain ⟨A, id, N, K, h1, h2, h3, h4, h5, h6⟩ := hS.ex
  have hW := cntU_wf h4
  obtain ⟨L, hL⟩ : ∃ L, L = allU (fun p => (m p).isSome) (cntU K) (bits + 1) [] := ⟨_, rfl⟩
  have hrow := hrel.row hb8 (K := L) (idf := id) (hL ▸ all_asc bits hb8 hW (fun p hp => hsh p hp) _ _) (fun q => by
    rw [hL, all_mem hW]
    exact ⟨fun h => h.1, fun h => ⟨h, List.nil_prefix, by have := hsh q h; simp; omega⟩⟩) h2
  have HRL := Lib.hid hrow.1
  have HRW := Lib.hid hrow.2
  clear hrow
  have hnd : L.Nodup := hL ▸ all_nodup hW _ _
  have hmem : ∀ q, q ∈ L ↔ (m q).isSome = true := fun q => by
    rw [hL, all_mem hW]
    exact ⟨fun h => h.1, fun h => ⟨h, List.nil_prefix, by have := hsh q h; simp; omega⟩⟩
  have hlen : L.length ≤ G := all_len hS hnd hmem
  have hcs : ∀ p, 0 < cntU K p → p.length ≤ bits := fun p hp => by
    unfold cntU at hp
    obtain ⟨q, hq⟩ := List.exists_mem_of_length_pos hp
    have h7 := List.mem_filter.1 hq
    have h8 := (List.isPrefixOf_iff_prefix.1 h7.2).length_le
    have h9 := hsh q ((h4.2 q).1 h7.1)
    omega
  obtain ⟨i0, hi0, hz0, hy1, hy2⟩ := info_partsU info_preT
  obtain ⟨w1, hmk, how1, hg1⟩ := run_make_own (P := Try.prog) w.drew w.heap.size 71 138 i0 _ 4 Try.underlying71 hi0 hz0 hy1 .i64 .i64 K.length (by rw [hy2]; omega) (by unfold maxLen; omega) (Nat.le_refl _)
  have hb1 : Below w.heap.size w w1 := (Below.refl _ w).drew.trans ⟨hg1.os, hg1.tape, hg1.output, hg1.size, fun j hj => hg1.block j hj (by simp)⟩
  have x1 : w.drew.cell? ⟨X, 1, none⟩ = some (ptU (lvU A (cntU K) [])) := blk_cell (h1.below (Below.refl _ w).drew).box 1 _ rfl
  have x2 : w1.cell? ⟨X, 1, none⟩ = some (ptU (lvU A (cntU K) [])) := blk_cell (h1.below hb1).box 1 _ rfl
  have KL : Hid (Calls Try.prog 27 #[.pointer (some ⟨X, 0, none⟩)] w.drew fun e w' => e = .returned (.int .i64 K.length) ∧ w' = w.drew) := Lib.hid (by
    have h := ut_Len (h1.below (Below.refl _ w).drew)
    rw [cntU_nil] at h
    exact h)
  have KA := Lib.hid (hApp w X bits N A (cntU K) (fun p => (m p).isSome) id h1 hcs hb8 w1 (some ⟨w.heap.size, 0, none⟩) K.length hb1 how1 (by rw [← hL]; omega))
  rw [← hL] at KA
  clear hi0 hz0 hy1 hy2 hg1 hnd hmem hcs hL how1 hS hsh h1 h2 h3 h4 h6 hW hb1 hApp
  have hmk2 : (Instr.makeSlice 71 (.int .i64 0) (.int .i64 (K.length : Int))).run Try.prog w.drew = .ok (.slice (some ⟨w.heap.size, 0, none⟩) 0 K.length) w1 := hmk
  clear hmk
  go_enter Try.func29, Try.ntmps29
  go_upto_region 3 with fail
  go_region_with (first
    | (go_at_call 27; (with_reducible refine KL.out.mono ?_); rintro e w4 ⟨rfl, rfl⟩)
    | (go_at_call 69; (with_reducible refine KA.out.mono ?_); rintro e w4 ⟨A', cap', rfl, ho4, hb4⟩))
  all_goals go_wp2
  all_goals go_ret
  all_goals
    rw [← HRL.out, ← HRW.out]
    exact ⟨A', cap', rfl, ho4, hb4⟩
theorem below_dnE {B : Nat} {a w : World} (h : Below B a w) (n : Nat) : Below B a (w.drewN n) := ⟨h.os, h.tape, h.output, h.size, h.block⟩
theorem eq_self (e : PE) (w : World) : (Op.equalIn 10000 76 (.agg #[.int .u64 (hi e.v), .int .u64 (lo e.v), .int .i64 (e.n : Int), .int .i64 e.id]) (.agg #[.int .u64 (hi e.v), .int .u64 (lo e.v), .int .i64 (e.n : Int), .int .i64 e.id])).run Try.prog w = .ok true w := by
  rw [eq_preE]; simp
set_option maxRecDepth 100000 in
set_option maxHeartbeats 4000000 in
theorem us_same {w : World} {A1 A2 : Option Addr} {n c1 c2 : Nat} {L : List PE} (h1 : RowsE w A1 L) (h2 : RowsE w A2 L) (hl : L.length = n) (hc1 : n ≤ c1) (hc2 : n ≤ c2) (hn : n ≤ 100000) : Calls Try.prog 28 #[.slice A1 n c1, .slice A2 n c2] w (RetX (.bool true) w) := by
  have H1 := Lib.hid h1
  have H2 := Lib.hid h2
  have HL := Lib.hid hl
  clear h1 h2 hl
  go_enter Try.func28, Try.ntmps28
  go_wp2_with fail
  go_loopw [14] (fun i W => ∃ k : Nat, k ≤ n ∧ i = .int .i64 k ∧ Below w.heap.size w W) (fun i _ => n - (intOf i).toNat)
  case atStart => exact ⟨0, Nat.zero_le _, rfl, Below.refl _ _⟩
  case round =>
    obtain ⟨k, hk, rfl, hb⟩ := hrel
    have HB := Lib.hid hb
    clear hb
    by_cases hlt : k < n
    · obtain ⟨e, he⟩ : ∃ e, L[k]? = some e := ⟨_, List.getElem?_eq_getElem (by rw [HL.out]; exact hlt)⟩
      obtain ⟨g1, rfl, L1, hcell1⟩ := (H1.out.below HB.out).resolve_left (fun h => by rw [h] at he; simp at he)
      obtain ⟨g2, rfl, L2, hcell2⟩ := (H2.out.below HB.out).resolve_left (fun h => by rw [h] at he; simp at he)
      have h1 := hcell1 k e he
      have h2 := hcell2 k e he
      have hE := eq_self e
      have hg : Try.prog.eqGuardType Try.prog.depth 76 = false := by kernel_rfl
      have a0 : wr.cell? ⟨g1, k * 4, none⟩ = some (.int .u64 (hi e.v)) := h1 0 (by omega)
      have b0 : (wr.alloc (.cells #[.int .u64 (hi e.v), .int .u64 (lo e.v), .int .i64 (e.n : Int), .int .i64 e.id] 138)).cell? ⟨g2, k * 4, none⟩ = some (.int .u64 (hi e.v)) := (((Below.refl _ wr).alloc (Nat.le_refl _) _).cell (p := ⟨g2, _, none⟩) L2).trans (h2 0 (by omega))
      have a1 : wr.cell? ⟨g1, k * 4 + 1, none⟩ = some (.int .u64 (lo e.v)) := h1 1 (by omega)
      have b1 : (wr.alloc (.cells #[.int .u64 (hi e.v), .int .u64 (lo e.v), .int .i64 (e.n : Int), .int .i64 e.id] 138)).cell? ⟨g2, k * 4 + 1, none⟩ = some (.int .u64 (lo e.v)) := (((Below.refl _ wr).alloc (Nat.le_refl _) _).cell (p := ⟨g2, _, none⟩) L2).trans (h2 1 (by omega))
      have a2 : wr.cell? ⟨g1, k * 4 + 2, none⟩ = some (.int .i64 (e.n : Int)) := h1 2 (by omega)
      have b2 : (wr.alloc (.cells #[.int .u64 (hi e.v), .int .u64 (lo e.v), .int .i64 (e.n : Int), .int .i64 e.id] 138)).cell? ⟨g2, k * 4 + 2, none⟩ = some (.int .i64 (e.n : Int)) := (((Below.refl _ wr).alloc (Nat.le_refl _) _).cell (p := ⟨g2, _, none⟩) L2).trans (h2 2 (by omega))
      have a3 : wr.cell? ⟨g1, k * 4 + 3, none⟩ = some (.int .i64 e.id) := h1 3 (by omega)
      have b3 : (wr.alloc (.cells #[.int .u64 (hi e.v), .int .u64 (lo e.v), .int .i64 (e.n : Int), .int .i64 e.id] 138)).cell? ⟨g2, k * 4 + 3, none⟩ = some (.int .i64 e.id) := (((Below.refl _ wr).alloc (Nat.le_refl _) _).cell (p := ⟨g2, _, none⟩) L2).trans (h2 3 (by omega))
      have k1 : (k : Int) < (n : Int) := by omega
      have k3 : (k : Int) < (c1 : Int) := by omega
      have k4 : (k : Int) < (c2 : Int) := by omega
      have k0 : 0 ≤ (k : Int) := by omega
      clear h1 h2 hcell1 hcell2 he
      go_wp2_with fail
      go_quiet (fail)
      go_wp2_with fail
      go_roundw
      case rel => exact ⟨k + 1, by omega, by simp, below_dnE (HB.out.trans (((Below.refl _ wr).alloc (Nat.le_refl _) _).mono HB.out.size)) _⟩
      case measure => simp [intOf]; omega
    · obtain rfl : n = k := by omega
      go_wp2_with fail
      go_ret
      exact ⟨rfl, HB.out⟩
end Go.Proofs.Ytmlocfojmncghaa
