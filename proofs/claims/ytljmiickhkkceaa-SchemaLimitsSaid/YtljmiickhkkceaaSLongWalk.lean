/- SchemaLong: its walk. -/
import Derived.Test.YtljmiickhkkceaaSLongP
import Derived.Test.YtljmiickhkkceaaSRefEnc
namespace Go.Proofs.Ytljmiickhkkceaa
open Go.RowKit

theorem info_tab : (Try.prog.info? 53).map (fun i => (i.zero, i.size, i.bytes)) = some (some (.agg #[.int .i64 0, .string ⟨#[]⟩, .slice none 0 0, .slice none 0 0, .int .i64 0, .slice none 0 0, .int .i64 0, .string ⟨#[]⟩]), 8, 128) := by kernel_rfl
theorem info_act : (Try.prog.info? 60).map (fun i => (i.zero, i.size, i.bytes)) = some (some (.agg #[.int .i64 0, .string ⟨#[]⟩, .slice none 0 0, .slice none 0 0, .string ⟨#[]⟩]), 5, 88) := by kernel_rfl
/-- The schema in block S: the slices of actions and tables, and nothing else. -/
structure LongAt (w0 : World) (S : Nat) (t : List Nat) (p q : Nat) (va vt : Value) (W : World) : Prop where
  c0 : W.cell? ⟨S, 0, none⟩ = some (.slice none 0 0)
  c1 : W.cell? ⟨S, 1, none⟩ = some (.slice none 0 0)
  c2 : W.cell? ⟨S, 2, none⟩ = some (.slice none 0 0)
  c3 : W.cell? ⟨S, 3, none⟩ = some va
  c4 : W.cell? ⟨S, 4, none⟩ = some vt
  c5 : W.cell? ⟨S, 5, none⟩ = some (.slice none 0 0)
  c6 : W.cell? ⟨S, 6, none⟩ = some (.slice none 0 0)
  c7 : W.cell? ⟨S, 7, none⟩ = some (.slice none 0 0)
  c8 : W.cell? ⟨S, 8, none⟩ = some (.int .i64 0)
  c9 : W.cell? ⟨S, 9, none⟩ = some (.int .i64 0)
  f : ∀ i, W.frozen? ⟨S, i, none⟩ = false
  ta : W.ownsRow (S + 1) 53 8 vt q (flat encTab ((List.range q).map (tabD t)))
  ac : W.ownsRow (S + 1) 60 5 va p (flat encAct ((List.range p).map (actD t)))
  lt : S < W.heap.size
  below : Below S w0 W
theorem one_tab (x : TableD) : ∀ u ∈ encTab x, u.oneCell' = true := by
  intro u hu
  simp only [encTab, List.mem_cons, List.not_mem_nil, or_false] at hu
  rcases hu with rfl | rfl | rfl | rfl | rfl | rfl | rfl | rfl <;> rfl
theorem one_act (x : ActionD) : ∀ u ∈ encAct x, u.oneCell' = true := by
  intro u hu
  simp only [encAct, List.mem_cons, List.not_mem_nil, or_false] at hu
  rcases hu with rfl | rfl | rfl | rfl | rfl <;> rfl
theorem own_apart {w : World} {b1 b2 n1 n2 s1 s2 : Nat} {e1 e2 : TypeId} {v1 v2 : Value} {x1 x2 : List Value} (he : e1 ≠ e2) (h1 : w.ownsRow b1 e1 s1 v1 n1 x1) (h2 : w.ownsRow b2 e2 s2 v2 n2 x2) : v1.ownBlock = none ∨ v1.ownBlock ≠ v2.ownBlock := by
  rcases h1.2 with ⟨rfl, _⟩ | ⟨g, cap, cur, rfl, _, hh, _⟩
  · exact .inl rfl
  · refine .inr fun e => ?_
    rcases h2.2 with ⟨rfl, _⟩ | ⟨g2, cap2, cur2, rfl, _, hh2, _⟩
    · cases e
    · injection e with e
      simp only at e
      subst e
      rw [hh] at hh2
      injection hh2 with e3
      injection e3 with _ e4 _
      exact he e4
theorem own_shapeG {w : World} {B e sz n : Nat} {v : Value} {l : List Value} (h : w.ownsRow B e sz v n l) : ∃ A cap, v = .slice A n cap := by
  rcases h.2 with ⟨rfl, rfl⟩ | ⟨g, cap, cur, rfl, _⟩
  · exact ⟨_, _, rfl⟩
  · exact ⟨_, _, rfl⟩
theorem own_setS {w : World} {S e sz n i : Nat} {v u : Value} {l : List Value} (h : w.ownsRow (S + 1) e sz v n l) : (w.setCell ⟨S, i, none⟩ u).ownsRow (S + 1) e sz v n l :=
  World.ownsRow.kept h (grown_set w S i u) (by
    cases e : v.ownBlock with
    | none => exact .inl rfl
    | some k => exact .inr fun e2 => by have := (World.ownsRow.lt h k e).1; injection e2 with e2; omega)
section
variable {w0 : World} {S p q : Nat} {t : List Nat} {va vt : Value} {W w1 : World} {o : Obj} {v' : Value}
theorem LongAt.keep (h : LongAt w0 S t p q va vt W) (hg : (W.alloc o).grownBy w1 vt.ownBlock ∨ (W.alloc o).grownBy w1 va.ownBlock) :
    (∀ i, w1.cell? ⟨S, i, none⟩ = W.cell? ⟨S, i, none⟩) ∧ (∀ i, w1.frozen? ⟨S, i, none⟩ = false) ∧ S < w1.heap.size ∧ Below S w0 w1 := by
  have hlt := h.lt
  have hal : S < (W.alloc o).heap.size := by simp; omega
  have hne : ∀ {v : Value}, (∀ k, v.ownBlock = some k → S + 1 ≤ k) → some S ≠ v.ownBlock := fun hv e => by have := hv S e.symm; omega
  have n1 := hne fun k e => (World.ownsRow.lt h.ta k e).1
  have n2 := hne fun k e => (World.ownsRow.lt h.ac k e).1
  rcases hg with hg | hg
  · exact ⟨fun i => (cell_kept hg hal n1).trans (World.cell?_alloc_past _ _ _ hlt), fun i => (frozen_kept hg hal n1).trans ((World.frozen?_alloc_past _ _ _ hlt).trans (h.f i)), Nat.lt_of_lt_of_le hal hg.size,
      (h.below.alloc (by omega) o).grown hg (by simp; omega) (fun k e => by have := (World.ownsRow.lt h.ta k e).1; omega)⟩
  · exact ⟨fun i => (cell_kept hg hal n2).trans (World.cell?_alloc_past _ _ _ hlt), fun i => (frozen_kept hg hal n2).trans ((World.frozen?_alloc_past _ _ _ hlt).trans (h.f i)), Nat.lt_of_lt_of_le hal hg.size,
      (h.below.alloc (by omega) o).grown hg (by simp; omega) (fun k e => by have := (World.ownsRow.lt h.ac k e).1; omega)⟩
theorem LongAt.tab (h : LongAt w0 S t p q va vt W) (hO : w1.ownsRow (S + 1) 53 8 v' (q + 1) (flat encTab ((List.range q).map (tabD t)) ++ encTab (tabD t q))) (hg : (W.alloc o).grownBy w1 vt.ownBlock) :
    LongAt w0 S t p (q + 1) va v' (w1.setCell ⟨S, 4, none⟩ v') ∧ w1.cell? ⟨S, 4, none⟩ = some vt ∧ w1.frozen? ⟨S, 4, none⟩ = false := by
  obtain ⟨hc, hf, hlt, hb⟩ := h.keep (.inl hg)
  have ho : ∀ j, 4 ≠ j → (w1.setCell ⟨S, 4, none⟩ v').cell? ⟨S, j, none⟩ = W.cell? ⟨S, j, none⟩ := fun j hj => (set_other _ _ _ _ _ hj).trans (hc j)
  have hz : (w1.setCell ⟨S, 4, none⟩ v').heap.size = w1.heap.size := by simp [World.setCell]
  have ha := World.ownsRow.kept (World.ownsRow.alloc h.ac o) hg (own_apart (by decide) h.ac h.ta)
  have e : (List.range (q + 1)).map (tabD t) = (List.range q).map (tabD t) ++ [tabD t q] := by simp [List.range_succ]
  refine ⟨⟨(ho 0 (by decide)).trans h.c0, (ho 1 (by decide)).trans h.c1, (ho 2 (by decide)).trans h.c2, (ho 3 (by decide)).trans h.c3, set_same _ ((hc 4).trans h.c4), (ho 5 (by decide)).trans h.c5, (ho 6 (by decide)).trans h.c6,
    (ho 7 (by decide)).trans h.c7, (ho 8 (by decide)).trans h.c8, (ho 9 (by decide)).trans h.c9, fun i => (set_froz _ _ _ _ _).trans (hf i), by rw [e, flat_snoc]; exact own_setS hO, own_setS ha, by rw [hz]; exact hlt, hb.setCell (Nat.le_refl _) _⟩, (hc 4).trans h.c4, hf 4⟩
theorem LongAt.act (h : LongAt w0 S t p q va vt W) (hO : w1.ownsRow (S + 1) 60 5 v' (p + 1) (flat encAct ((List.range p).map (actD t)) ++ encAct (actD t p))) (hg : (W.alloc o).grownBy w1 va.ownBlock) :
    LongAt w0 S t (p + 1) q v' vt (w1.setCell ⟨S, 3, none⟩ v') ∧ w1.cell? ⟨S, 3, none⟩ = some va ∧ w1.frozen? ⟨S, 3, none⟩ = false := by
  obtain ⟨hc, hf, hlt, hb⟩ := h.keep (.inr hg)
  have ho : ∀ j, 3 ≠ j → (w1.setCell ⟨S, 3, none⟩ v').cell? ⟨S, j, none⟩ = W.cell? ⟨S, j, none⟩ := fun j hj => (set_other _ _ _ _ _ hj).trans (hc j)
  have hz : (w1.setCell ⟨S, 3, none⟩ v').heap.size = w1.heap.size := by simp [World.setCell]
  have ha := World.ownsRow.kept (World.ownsRow.alloc h.ta o) hg (own_apart (by decide) h.ta h.ac)
  have e : (List.range (p + 1)).map (actD t) = (List.range p).map (actD t) ++ [actD t p] := by simp [List.range_succ]
  refine ⟨⟨(ho 0 (by decide)).trans h.c0, (ho 1 (by decide)).trans h.c1, (ho 2 (by decide)).trans h.c2, set_same _ ((hc 3).trans h.c3), (ho 4 (by decide)).trans h.c4, (ho 5 (by decide)).trans h.c5, (ho 6 (by decide)).trans h.c6,
    (ho 7 (by decide)).trans h.c7, (ho 8 (by decide)).trans h.c8, (ho 9 (by decide)).trans h.c9, fun i => (set_froz _ _ _ _ _).trans (hf i), own_setS ha, by rw [e, flat_snoc]; exact own_setS hO, by rw [hz]; exact hlt, hb.setCell (Nat.le_refl _) _⟩, (hc 3).trans h.c3, hf 3⟩
/-- What lies in block S is the long schema. -/
theorem LongAt.schema (h : LongAt w0 S t 12 8 va vt W) (ht : Txt t) : SchemaV W.heap.size W [.slice none 0 0, .slice none 0 0, .slice none 0 0, va, vt, .slice none 0 0, .slice none 0 0, .slice none 0 0, .int .i64 0, .int .i64 0] (longD t) := by
  have i0 : I64 0 := by unfold I64; decide
  have n0 : Txt [] := ⟨Small.nil, by simp⟩
  have ii : ∀ i : Nat, i < 100 → I64 (i : Int) := fun i hi => ⟨by omega, by omega⟩
  refine ⟨_, _, _, _, _, _, _, _, rfl, row_nil _ _ _ _, row_nil _ _ _ _, row_nil _ _ _ _, ?_, ?_, row_nil _ _ _ _, row_nil _ _ _ _, row_nil _ _ _ _, i0, i0⟩
  · refine rowV_of_own (enc := encAct) (fun _ => rfl) (Nat.le_refl _) (fun x hx => ?_) (by have := h.ac; simpa [longD] using this)
    obtain ⟨i, hi, rfl⟩ := List.mem_map.1 hx
    exact ⟨_, _, rfl, ii i (by have := List.mem_range.1 hi; omega), n0, row_nil _ _ _ _, row_nil _ _ _ _, ht⟩
  · refine rowV_of_own (enc := encTab) (fun _ => rfl) (Nat.le_refl _) (fun x hx => ?_) (by have := h.ta; simpa [longD] using this)
    obtain ⟨i, hi, rfl⟩ := List.mem_map.1 hx
    exact ⟨_, _, _, rfl, ii i (by have := List.mem_range.1 hi; omega), n0, row_nil _ _ _ _, row_nil _ _ _ _, i0, row_nil _ _ _ _, i0, ht⟩
end
set_option maxRecDepth 100000 in
set_option maxHeartbeats 4000000 in
theorem long_any (n : Int) (w : World) (hn : I64 n) : Calls Try.prog 5 #[.int .i64 n] w fun e w' => e = .returned (.bool true) ∧ Below w.heap.size w w' := by
  obtain ⟨m, hm⟩ : ∃ m : Nat, (m : Int) = n % 20 := ⟨(n % 20).toNat, by omega⟩
  have hm20 : m < 20 := by omega
  have HM := Lib.hid hm
  clear hm
  go_enter Try.func5, Try.ntmps5
  go_wp2_with fail
  go_loop [3, 4] (fun s i => ∃ q : Nat, q ≤ 375 + m ∧ i = .int .i64 q ∧ s = .string (strL (List.replicate q 120))) (fun _ i => 375 + m - (intOf i).toNat)
  case atStart => exact ⟨0, by omega, rfl, rfl⟩
  case round =>
    obtain ⟨q, hq, rfl, rfl⟩ := hrel
    have hz : (strL (List.replicate q 120)).size + 1 ≤ 9223372036854775807 := by rw [strL_size, List.length_replicate]; omega
    have hs : strL (List.replicate q 120) ++ ⟨#[120]⟩ = strL (List.replicate (q + 1) 120) := by
      have := str_snoc (List.replicate q 120) 120
      rw [← List.replicate_succ'] at this
      exact this
    have HS := Lib.hid hs
    clear hs
    go_wp2_with fail
    refine (mod_any n 20 hn (by decide) (by decide) _).mono ?_
    rw [← HM.out]
    rintro e w' ⟨rfl, rfl⟩
    by_cases hqm : q < 375 + m
    · have h1 : (q : Int) < 375 + (m : Int) := by omega
      go_wp2_with fail
      go_round
      case rel => exact ⟨q + 1, by omega, by simp, by rw [← HS.out]⟩
      case measure => simp [intOf]; omega
    · obtain rfl : q = 375 + m := by omega
      clear hqm HS
      go_wp2_with fail
      obtain ⟨t, ht⟩ : ∃ t, t = List.replicate (375 + m) 120 := ⟨_, rfl⟩
      have htl : t.length ≤ 400 := by rw [ht, List.length_replicate]; omega
      have htp : plain t = true := by rw [ht]; simp [plain]
      have htx : Txt t := ⟨by rw [ht]; intro x hx; rw [List.eq_of_mem_replicate hx]; decide, by omega⟩
      rw [← ht]
      have HT := Lib.hid htx
      have HR := Lib.hid (long_res t htl htp)
      clear ht htl htp htx hz
      obtain ⟨i0, hi0, hz0, hy1, hy2⟩ := info_parts info_tab
      obtain ⟨i1, hi1, hz1, hy3, hy4⟩ := info_parts info_act
      have hL0 : LongAt w w.heap.size t 0 0 (.slice none 0 0) (.slice none 0 0) (w.alloc (.cells #[.slice none 0 0, .slice none 0 0, .slice none 0 0, .slice none 0 0, .slice none 0 0, .slice none 0 0, .slice none 0 0, .slice none 0 0, .int .i64 0, .int .i64 0] 31)) :=
        ⟨by simp, by simp, by simp, by simp, by simp, by simp, by simp, by simp, by simp, by simp, fun i => by simp, World.ownsRow_nil _ _ _ _, World.ownsRow_nil _ _ _ _, by simp, (Below.refl _ _).alloc (Nat.le_refl _) _⟩
      have HL0 := Lib.hid hL0
      clear hL0
      go_loopw [6] (fun i W => ∃ q : Nat, q ≤ 8 ∧ i = .int .i64 q ∧ ∃ vt, LongAt w w.heap.size t 0 q (.slice none 0 0) vt W) (fun i _ => 8 - (intOf i).toNat)
      case atStart => exact ⟨0, by omega, rfl, _, HL0.out⟩
      case round =>
        obtain ⟨q, hq, rfl, vt, hL⟩ := hrel
        have HL := Lib.hid hL
        have c4 := hL.c4
        have hlt := hL.lt
        clear hL
        by_cases hq8 : q < 8
        · have h1 : (q : Int) < 8 := by omega
          go_wp2_with (at_builtin; (refine wpList_append_own _ rfl (.tmp 26) (.tmp 30) 26 rfl (w.heap.size + 1) 53 i0 _ 8 128 Try.underlying26 hi0 hz0 hy1 hy2 rfl (by decide) vt q _ rfl (World.ownsRow.alloc HL.out.ta _) ⟨wr.heap.size, 0, none⟩ 1 1 (encTab (tabD t q)) rfl rfl (World.news_of_block (cs := (encTab (tabD t q)).toArray) (t := 53) (fr := (0, 0)) (heap_alloc_new wr _)) (one_tab _) (by unfold maxLen; omega) (by omega) (by simp; omega) ?_; intro v1 w1 hO1 hg1 _; obtain ⟨A1, cap1, rfl⟩ := own_shapeG hO1; obtain ⟨k1, k2, k3⟩ := HL.out.tab hO1 hg1; have K1 := Lib.hid k1; clear k1 hO1 hg1))
          go_roundw
          case rel => exact ⟨q + 1, by omega, by simp, _, K1.out⟩
          case measure => simp [intOf]; omega
        · obtain rfl : q = 8 := by omega
          clear c4 hq8
          rw [show ((8 : Nat) : Int) = 8 from rfl]
          go_wp2_with fail
          go_loopw [7] (fun i W => ∃ p : Nat, p ≤ 12 ∧ i = .int .i64 p ∧ ∃ va vt, LongAt w w.heap.size t p 8 va vt W) (fun i _ => 12 - (intOf i).toNat)
          case atStart => exact ⟨0, by omega, rfl, _, _, HL.out⟩
          case round =>
            obtain ⟨p, hp, rfl, va, vt, hL⟩ := hrel
            have HL := Lib.hid hL
            have c3 := hL.c3
            have hlt := hL.lt
            clear hL
            by_cases hp12 : p < 12
            · have h1 : (p : Int) < 12 := by omega
              go_wp2_with (at_builtin; (refine wpList_append_own _ rfl (.tmp 38) (.tmp 42) 25 rfl (w.heap.size + 1) 60 i1 _ 5 88 Try.underlying25 hi1 hz1 hy3 hy4 rfl (by decide) va p _ rfl (World.ownsRow.alloc HL.out.ac _) ⟨wr.heap.size, 0, none⟩ 1 1 (encAct (actD t p)) rfl rfl (World.news_of_block (cs := (encAct (actD t p)).toArray) (t := 60) (fr := (0, 0)) (heap_alloc_new wr _)) (one_act _) (by unfold maxLen; omega) (by omega) (by simp; omega) ?_; intro v1 w1 hO1 hg1 _; obtain ⟨A1, cap1, rfl⟩ := own_shapeG hO1; obtain ⟨k1, k2, k3⟩ := HL.out.act hO1 hg1; have K1 := Lib.hid k1; clear k1 hO1 hg1))
              go_roundw
              case rel => exact ⟨p + 1, by omega, by simp, _, _, K1.out⟩
              case measure => simp [intOf]; omega
            · obtain rfl : p = 12 := by omega
              obtain ⟨Aa, capa, rfl⟩ := own_shapeG HL.out.ac
              obtain ⟨Ab, capb, rfl⟩ := own_shapeG HL.out.ta
              have d0 := HL.out.c0
              have d1 := HL.out.c1
              have d2 := HL.out.c2
              have d4 := HL.out.c4
              have d5 := HL.out.c5
              have d6 := HL.out.c6
              have d7 := HL.out.c7
              have d8 := HL.out.c8
              have d9 := HL.out.c9
              have HS := Lib.hid (HL.out.schema HT.out)
              obtain ⟨E, hE⟩ : ∃ E, E = finE (eSchema wayP (longD t) ws0) := ⟨_, rfl⟩
              obtain ⟨L, hL⟩ : ∃ L, L = finL (eSchema wayP (longD t) ws0) := ⟨_, rfl⟩
              have hE3 : E = 0 ∨ E = 3 := by rw [hE]; exact HR.out.1
              have HE := Lib.hid hE
              have HLL := Lib.hid hL
              have HE3 := Lib.hid hE3
              clear hE hL hE3
              go_wp2_with fail
              refine (encode_any (longD t) _ _ HS.out).mono ?_
              rw [← HE.out, ← HLL.out]
              rintro e wx ⟨vx, rfl, hOx, hbx⟩
              obtain ⟨A1, n1, cap1, g1, rfl, hn1, hr1, hg1⟩ := own_read hOx
              have hc : ∀ i, wx.cell? ⟨w.heap.size, i, none⟩ = wr.cell? ⟨w.heap.size, i, none⟩ := fun i => hbx.cell hlt
              have HS2 := Lib.hid (mono_schema _ _ _ _ _ hbx.size (kept_schema _ _ _ _ _ hbx HS.out))
              have x0 := (hc 0).trans d0
              have x1 := (hc 1).trans d1
              have x2 := (hc 2).trans d2
              have x3 := (hc 3).trans HL.out.c3
              have x4 := (hc 4).trans d4
              have x5 := (hc 5).trans d5
              have x6 := (hc 6).trans d6
              have x7 := (hc 7).trans d7
              have x8 := (hc 8).trans d8
              have x9 := (hc 9).trans d9
              have HB1 := Lib.hid hbx
              have HR1 := Lib.hid hr1
              clear hbx hr1 hOx hc c3 d0 d1 d2 d4 d5 d6 d7 d8 d9
              go_wp2_with fail
              refine (rencode_any (longD t) _ HS2.out HR.out.2).mono ?_
              rw [← (enc_agree (longD t)).1, ← (enc_agree (longD t)).2, ← HE.out, ← HLL.out]
              rintro e wy ⟨vy, rfl, hOy, hby⟩
              obtain ⟨A2, n2, cap2, g2, rfl, hn2, hr2, hg2⟩ := own_read hOy
              have cva := conv_list cap1 (HR1.out.kept (grown_of_below hby none) (by simp)) hn1.out.symm
              have cvb := conv_list cap2 hr2 hn2.out.symm
              have HB2 := Lib.hid (HL.out.below.trans ((HB1.out.mono (Nat.le_of_lt hlt)).trans (hby.mono (Nat.le_trans (Nat.le_of_lt hlt) HB1.out.size))))
              generalize strL L = T at cva cvb
              clear hby hr2 hOy x0 x1 x2 x3 x4 x5 x6 x7 x8 x9 HR1
              have hE3 := HE3.out
              clear HE HE3
              rcases hE3 with rfl | rfl
              all_goals
                go_wp2_with (go_at_call 7; (refine (sbegun_any _).mono ?_; rintro en wz ⟨rfl, bz⟩))
                go_ret
                exact ⟨rfl, HB2.out.trans (bz.mono HB2.out.size)⟩
end Go.Proofs.Ytljmiickhkkceaa
