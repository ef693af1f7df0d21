/- The functions of package wire that append. -/
import Derived.Test.YthfimcbjbkbcjaaWApp
namespace Go.Proofs.Ythfimcbjbkbcjaa
open Go.RowKit

/-- The call returns a slice that holds the bytes l, in a block of its own; nothing that there was is changed. -/
def RetS (l : List Nat) (w : World) (en : Ending) (w' : World) : Prop :=
  ∃ A n cap g, en = .returned (.slice A n cap) ∧ Hid (n = l.length) ∧ ReadsL w' g A l ∧ w.heap.size ≤ g ∧ g < w'.heap.size ∧ Below w.heap.size w w'
theorem Own.of {w : World} {B : Nat} {A : Option Addr} {n cap : Nat} {l : List Nat} (hn : n = l.length) (h : w.ownsRow B 5 1 (.slice A n cap) n (cellsOf l)) : Own w B (.slice A n cap) l := by
  subst hn
  exact h
theorem Own.retS {w w' : World} {v : Value} {l : List Nat} (h : Own w' w.heap.size v l) (hlt : w.heap.size < w'.heap.size) (hb : Below w.heap.size w w') : RetS l w (.returned v) w' := by
  rcases h.2 with ⟨rfl, h0⟩ | ⟨g, cap, cur, rfl, hg, hh, hn, hc, hsz, htake⟩
  · obtain rfl : l = [] := List.eq_nil_of_length_eq_zero h0
    exact ⟨none, 0, 0, w.heap.size, rfl, Lib.hid rfl, .inl rfl, Nat.le_refl _, hlt, hb⟩
  · have hgl : g < w'.heap.size := by
      rcases Nat.lt_or_ge g w'.heap.size with h | h
      · exact h
      · rw [Array.getElem?_eq_none h] at hh; cases hh
    refine ⟨_, _, _, g, rfl, Lib.hid rfl, .inr ⟨0, rfl, hgl, fun i hi => ?_⟩, hg, hgl, hb⟩
    rw [Nat.zero_add, World.ownsRow.cellAt h i (by omega), cellsOf_get hi]
/-- A new block, and rows of one's own above it: nothing that there was is changed. -/
theorem grown_of {w w1 w2 : World} {v : Value} (hlt : ∀ k, v.ownBlock = some k → w.heap.size ≤ k ∧ k < w1.heap.size) (hb : Below w.heap.size w w1) (hg : w1.grownBy w2 v.ownBlock) : w.grownBy w2 none :=
  (grown_of_below hb none).andThen hg fun j hj => .inl (hlt j hj).1
theorem encU_1 : encU 1 1 = [1] := by decide +kernel
theorem encU_0 : encU 0 1 = [0] := by decide +kernel

section
variable (A : Option Addr) (D n cap : Nat) (l : List Nat) (w : World)
theorem auint_any (x : Int) (k : Nat) (hk1 : 1 ≤ k) (hk : k ≤ 4) (hx1 : -9223372036854775808 ≤ x) (hx2 : x ≤ 9223372036854775807) (hr : ReadsL w D A l) (hl : l.length = n) (hn : n ≤ 1000000) :
    Calls Try.prog 26 #[.slice A n cap, .int .i64 x, .int .i64 k] w (RetS (l ++ encU x k) w) := by
  have HR := Lib.hid hr
  have HL := Lib.hid hl
  have H1 := Lib.hid hx1
  have H2 := Lib.hid hx2
  clear hr hl hx1 hx2
  go_enter Try.func26, Try.ntmps26
  go_wp2_with (first
    | (go_at_call 52; refine (isuint_yes k _ hk1 hk).mono ?_; rintro e w' ⟨rfl, rfl⟩)
    | (go_at_call 37; refine (room_any A D n cap k l _ HR.out HL.out (by omega) (by omega)).mono ?_; rintro e w1 ⟨A1, n1, cap1, g1, rfl, hn1, ho1, hb1, hg1, hr1, hc1, hm1, hm2, hq1⟩)
    | (go_at_call 53; refine (num_any (.slice A1 n1 cap1) x k l w.heap.size _ hk H1.out H2.out (by have := HL.out; omega) hb1.size (Own.of hn1.out ho1)).mono ?_; rintro e w2 ⟨v2, rfl, hO2, hg2, ha2⟩))
  go_ret
  refine hO2.retS ?_ (hb1.grown hg2 hb1.size fun j hj => ?_)
  · have := hg2.size; omega
  · exact (World.ownsRow.lt ho1 j hj).1
theorem auint_bad (x k : Int) (hk : k < 1 ∨ 4 < k) (hr : ReadsL w D A l) (hl : l.length = n) (hn : n ≤ 1000000) :
    Calls Try.prog 26 #[.slice A n cap, .int .i64 x, .int .i64 k] w (RetS l w) := by
  have HR := Lib.hid hr
  have HL := Lib.hid hl
  clear hr hl
  have key : Calls Try.prog 52 #[.int .i64 k] w fun e w' => e = .returned (.bool false) ∧ w = w' := by
    by_cases h : k < 1
    · have h1 : decide (1 ≤ k) = false := by simp; omega
      clear hk
      go_enter Try.func52, Try.ntmps52
      go_wp2
      go_ret
      exact ⟨by simp, rfl⟩
    · have h1 : 1 ≤ k := by omega
      have h2 : decide (k ≤ 4) = false := by simp; omega
      clear hk h
      go_enter Try.func52, Try.ntmps52
      go_wp2
      go_ret
      exact ⟨by simp, rfl⟩
  have HK := Lib.hid key
  clear key hk
  go_enter Try.func26, Try.ntmps26
  go_wp2_with (first
    | (go_at_call 52; refine HK.out.mono ?_; rintro e w' ⟨rfl, rfl⟩)
    | (go_at_call 37; refine (room_0 A D n cap l _ HR.out HL.out (by omega)).mono ?_; rintro e w1 ⟨A1, n1, cap1, g1, rfl, hn1, ho1, hb1, hg1, hr1, hc1, hm1, hm2, hq1⟩))
  go_ret
  exact ⟨_, _, _, g1, rfl, hn1, hr1, hg1, hq1, hb1⟩
theorem abool_any (x : Bool) (hr : ReadsL w D A l) (hl : l.length = n) (hn : n ≤ 1000000) :
    Calls Try.prog 27 #[.slice A n cap, .bool x] w (RetS (l ++ [if x = true then 1 else 0]) w) := by
  have HR := Lib.hid hr
  have HL := Lib.hid hl
  have H1 := Lib.hid (auint_any A D n cap l w 1 1 (by decide) (by decide) (by decide) (by decide) hr hl hn)
  have H0 := Lib.hid (auint_any A D n cap l w 0 1 (by decide) (by decide) (by decide) (by decide) hr hl hn)
  rw [encU_1] at H1
  rw [encU_0] at H0
  clear hr hl
  cases x
  · go_enter Try.func27, Try.ntmps27
    go_wp2_with (go_at_call 26; refine H0.out.mono ?_; rintro e w1 ⟨A1, n1, cap1, g1, rfl, h1⟩)
    go_ret
    exact ⟨_, _, _, _, rfl, h1⟩
  · go_enter Try.func27, Try.ntmps27
    go_wp2_with (go_at_call 26; refine H1.out.mono ?_; rintro e w1 ⟨A1, n1, cap1, g1, rfl, h1⟩)
    go_ret
    exact ⟨_, _, _, _, rfl, h1⟩
theorem block_any (A2 : Option Addr) (D2 n2 cap2 k : Nat) (x : List Nat) (hk1 : 1 ≤ k) (hk : k ≤ 4) (hr : ReadsL w D A l) (hl : l.length = n) (hn : n ≤ 1000000) (hr2 : ReadsL w D2 A2 x) (hl2 : x.length = n2) (hn2 : n2 ≤ 1000000) :
    Calls Try.prog 54 #[.slice A n cap, .slice A2 n2 cap2, .int .i64 k] w (RetS (l ++ encU n2 k ++ x) w) := by
  have HR := Lib.hid hr
  have HL := Lib.hid hl
  have HR2 := Lib.hid hr2
  have HL2 := Lib.hid hl2
  clear hr hl hr2 hl2
  have hrm : Calls Try.prog 37 #[.slice A n cap, .int .i64 ((k : Int) + (n2 : Int))] w (RetL l (k + n2) w) := room_any A D n cap (k + n2) l w HR.out HL.out (by omega) (by omega)
  have HRM := Lib.hid hrm
  clear hrm
  go_enter Try.func54, Try.ntmps54
  go_wp2_with (first
    | (go_at_call 37; refine HRM.out.mono ?_; rintro e w1 ⟨A1, n1, cap1, g1, rfl, hn1, ho1, hb1, hg1, hr1, hc1, hm1, hm2, hq1⟩)
    | (go_at_call 53; refine (num_any (.slice A1 n1 cap1) n2 k l w.heap.size _ hk (by omega) (by omega) (by have := HL.out; omega) hb1.size (Own.of hn1.out ho1)).mono ?_; rintro e w2 ⟨v2, rfl, hO2, hg2, ha2⟩; have hgw := grown_of (World.ownsRow.lt ho1) hb1 hg2)
    | (at_builtin; (refine wpList_app rfl (.tmp 17) (.tmp 18) rfl rfl hO2 rfl (HR2.out.kept hgw (by simp)) HL2.out (by rw [List.length_append, encU_len]; have := HL.out; omega) (Nat.le_trans hb1.size hg2.size) ?_; intro v3 w3 hO3 hg3 ha3)))
  go_ret
  refine hO3.retS ?_ ?_
  · have := hg2.size; have := hg3.size; omega
  · exact below_of_grown (hgw.andThen hg3 fun j hj => .inl (World.ownsRow.lt hO2 j hj).1)
/-- The canonical bytes of a. -/
def bl (a : Nat) : List Nat := (List.range (nb a)).map (gb a)
theorem bl_len (a : Nat) : (bl a).length = nb a := by simp [bl]
theorem bl_get (a i : Nat) (h : i < nb a) : (bl a).getD i 0 = gb a i := by
  rw [List.getD_eq_getElem?_getD, bl, List.getElem?_map, List.getElem?_range h]
  rfl
theorem bl_small (a : Nat) : Small (bl a) := fun x hx => by
  obtain ⟨i, _, rfl⟩ := List.mem_map.1 hx
  exact gb_lt a i
theorem reads_bl {w : World} {b a : Nat} (h : ReadsB w (some ⟨b, 0, none⟩) (nb a) (gb a)) : ReadsL w b (some ⟨b, 0, none⟩) (bl a) ∧ b < w.heap.size := by
  obtain ⟨b', o, he, hb, hc, _⟩ := h.resolve_left (by have := nb_pos a; omega)
  simp only [Option.some.injEq, Addr.mk.injEq, and_true] at he
  obtain ⟨rfl, rfl⟩ := he
  refine ⟨.inr ⟨0, rfl, hb, fun i hi => ?_⟩, hb⟩
  rw [bl_len] at hi
  rw [hc i hi, bl_get a i hi]
theorem avalue_any (a : Nat) (ha : a < 2 ^ 128) (hr : ReadsL w D A l) (hl : l.length = n) (hn : n ≤ 1000000) :
    Calls Try.prog 28 #[.slice A n cap, .agg #[.int .u64 (hi a), .int .u64 (lo a)]] w (RetS (l ++ encU (nb a) 1 ++ bl a) w) := by
  have HR := Lib.hid hr
  have HL := Lib.hid hl
  have HA := Lib.hid ha
  have HN := Lib.hid (nb_le a ha)
  have hD : ∀ w', Below w.heap.size w w' → ReadsL w' D A l := fun w' h => hr.kept (grown_of_below h none) (by simp)
  have HD := Lib.hid hD
  clear hr hl ha hD
  go_enter Try.func28, Try.ntmps28
  go_wp2_with (first
    | (go_at_call 55; refine (bytes_form a HA.out _).mono ?_; rintro e w1 ⟨b1, cap1, rfl, hr1, hb1⟩; obtain ⟨hr2, hb2⟩ := reads_bl hr1; have hbw : Below w.heap.size w w1 := ((Below.refl _ _).alloc (Nat.le_refl _) _).trans (hb1.mono (by simp)))
    | (go_at_call 54; refine (block_any A D n cap l _ _ b1 (nb a) cap1 1 (bl a) (by decide) (by decide) (HD.out _ hbw) HL.out (by omega) hr2 (bl_len a) (by have := HN.out; omega)).mono ?_; rintro e w2 ⟨A2, n2, cap2, g2, rfl, hn2, h2, hg2, hq2, hb3⟩))
  go_ret
  exact ⟨_, _, _, g2, rfl, hn2, h2, Nat.le_trans hbw.size hg2, hq2, hbw.trans (hb3.mono hbw.size)⟩
theorem abytes_any (A2 : Option Addr) (D2 n2 cap2 : Nat) (x : List Nat) (hr : ReadsL w D A l) (hl : l.length = n) (hn : n ≤ 1000000) (hr2 : ReadsL w D2 A2 x) (hl2 : x.length = n2) (hn2 : n2 ≤ 65535) (hc2 : n2 ≤ cap2) :
    Calls Try.prog 29 #[.slice A n cap, .slice A2 n2 cap2] w (RetS (l ++ encU n2 2 ++ x) w) := by
  have hB := Lib.hid (block_any A D n cap l w A2 D2 n2 cap2 2 x (by decide) (by decide) hr hl hn hr2 hl2 (by omega))
  have h1 : min (n2 : Int) 65535 = n2 := by omega
  have h2 : (n2 : Int) ≤ (cap2 : Int) := by omega
  clear hr hl hr2 hl2
  go_enter Try.func29, Try.ntmps29
  go_wp2_with (go_at_call 54; refine hB.out.mono ?_; rintro e w2 ⟨A2, n2, cap2, g2, rfl, h2⟩)
  go_ret
  exact ⟨_, _, _, g2, rfl, h2⟩
end
end Go.Proofs.Ythfimcbjbkbcjaa
