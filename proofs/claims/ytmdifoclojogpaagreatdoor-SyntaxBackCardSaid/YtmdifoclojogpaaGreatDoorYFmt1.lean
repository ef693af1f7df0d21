/- Layer 7: the program's text of a leaf; a symbol. -/
import Derived.Test.YtmdifoclojogpaaGreatDoorYBack3
import Derived.Test.YtmdifoclojogpaaGreatDoorJYPar
import Derived.Test.YtmdifoclojogpaaGreatDoorJNTx
namespace Go.Proofs.YtmdifoclojogpaaGreatDoor
open Go.RowKit

set_option maxRecDepth 100000 in
set_option maxHeartbeats 2000000 in
theorem fy_sym (o : Nat) (ho : o ≤ 16) (w : World) (hy : SymY w) : Calls Tryz.prog 70 #[.int .i64 (o : Nat)] w (RetX (.string (sy o)) w) := by
  have hsy := hy.c o (by omega)
  have h1 : ¬ (o : Int) < 0 := by omega
  have h2 : (o : Int) < 17 := by omega
  have h3 : ¬ (17 : Int) ≤ (o : Int) := by omega
  have h4 : 0 ≤ (o : Int) := by omega
  generalize sy o = x at hsy ⊢
  clear hy
  go_enter Tryz.func70, Tryz.ntmps70
  go_wp2
  go_ret
  exact ⟨rfl, Below.refl _ _⟩
/-- a leaf's text -/
def lfB (n : Nd) : ByteArray :=
  if n.op = 1 then dtx n.val
  else if n.op = 2 then (if n.val = 1 then syTrue else syFalse)
  else if n.attr.size = 0 then n.name else n.name ++ syOf ++ n.attr
theorem lfB_bl (n : Nd) : bl (lfB n) = itx (lfK n) := by
  unfold lfB lfK
  by_cases h1 : n.op = 1
  · rw [if_pos h1, if_pos h1]; simp [itx, itB]
  · rw [if_neg h1, if_neg h1]
    by_cases h2 : n.op = 2
    · rw [if_pos h2, if_pos h2]; simp [itx, itB]
    · rw [if_neg h2, if_neg h2]
      by_cases h3 : n.attr.size = 0
      · rw [if_pos h3, if_pos h3]; simp [itx, itB]
      · rw [if_neg h3, if_neg h3, bl_app, bl_app]; simp [itx, itB]
theorem hl_one : hi 1 = 0 ∧ lo 1 = 1 := by decide
theorem hl_zero : hi 0 = 0 ∧ lo 0 = 0 := by decide
set_option maxRecDepth 100000 in
set_option maxHeartbeats 4000000 in
theorem fy_leaf (n : Nd) (h : LeafOk n) (hz : n.name.size ≤ 100000 ∧ n.attr.size ≤ 100000) (w : World) : Calls Tryz.prog 68 #[.agg #[.int .i64 (n.op : Nat), .int .i64 (n.a : Nat), .int .i64 (n.b : Nat), .string n.name, .string n.attr, .int .u64 (hi n.val), .int .u64 (lo n.val)]] w (RetX (.string (lfB n)) w) := by
  obtain ⟨op, a, b, nm, at_, v⟩ := n
  obtain ⟨ha, hb, his⟩ := h
  simp only at ha hb his hz
  subst ha hb
  rcases his with ⟨rfl, rfl, rfl, hv⟩ | ⟨rfl, rfl, rfl, hv⟩ | ⟨rfl, rfl, hkn, n1, n2, hat, hw, hwa⟩
  · have KF := Lib.hid fun W => nn_from v (Nat.lt_of_lt_of_eq hv (by decide)) W
    have KT := Lib.hid fun W => nn_text (v : Int) (by omega) (by omega) W
    have e0 : lfB ⟨1, 0, 0, ⟨#[]⟩, ⟨#[]⟩, v⟩ = strN (tl v) := rfl
    rw [e0]
    clear hv e0
    go_enter Tryz.func68, Tryz.ntmps68
    go_wp2_with fail
    go_at_call 92
    refine (KF.out _).mono ?_
    rintro e w1 ⟨rfl, hb1⟩
    go_wp2_with fail
    go_at_call 91
    refine (KT.out _).mono ?_
    rintro e w2 ⟨rfl, hb2⟩
    go_wp2_with fail
    go_ret
    exact ⟨rfl, ((Below.refl _ _).alloc (Nat.le_refl _) _).trans ((hb1.trans (hb2.mono hb1.size)).mono (by simp))⟩
  · have h01 : v = 1 ∨ v = 0 := by omega
    rcases h01 with rfl | rfl
    · have e0 : lfB ⟨2, 0, 0, ⟨#[]⟩, ⟨#[]⟩, 1⟩ = syTrue := rfl
      rw [e0]
      show Calls _ _ #[.agg #[.int .i64 2, .int .i64 0, .int .i64 0, .string ⟨#[]⟩, .string ⟨#[]⟩, .int .u64 (hi 1), .int .u64 (lo 1)]] _ _
      have KO : Hid (∀ W : World, Calls Tryz.prog 58 #[.int .u64 1] W (RetX (.agg #[.int .u64 0, .int .u64 1]) W)) := Lib.hid fun W => of_any 1 (by decide) W
      rw [hl_one.1, hl_one.2]
      clear e0 hv
      go_enter Tryz.func68, Tryz.ntmps68
      go_wp2_with fail
      go_region_with (go_at_call 58; (refine (KO.out _).mono ?_); (rintro e w1 ⟨rfl, hb1⟩); (have q0 : w1.cell? ⟨w.heap.size, 0, none⟩ = some (.int .i64 2) := by (rw [hb1.cell (p := ⟨w.heap.size, 0, none⟩) (by simp)]; show (w.alloc _).cell? _ = _; rw [World.cell?_alloc_new]; rfl)); (have q5 : w1.cell? ⟨w.heap.size, 5, none⟩ = some (.int .u64 0) := by (rw [hb1.cell (p := ⟨w.heap.size, 5, none⟩) (by simp)]; show (w.alloc _).cell? _ = _; rw [World.cell?_alloc_new]; rfl)); (have q6 : w1.cell? ⟨w.heap.size, 6, none⟩ = some (.int .u64 1) := by (rw [hb1.cell (p := ⟨w.heap.size, 6, none⟩) (by simp)]; show (w.alloc _).cell? _ = _; rw [World.cell?_alloc_new]; rfl)))
      all_goals
        go_wp2_with fail
        go_ret
        have hb2 := hb1.mono (show w.heap.size ≤ _ by show w.heap.size ≤ (w.alloc _).heap.size; rw [World.size_alloc]; omega)
        exact ⟨rfl, (((Below.refl _ _).alloc (Nat.le_refl _) _).drew).trans hb2⟩
    · have e0 : lfB ⟨2, 0, 0, ⟨#[]⟩, ⟨#[]⟩, 0⟩ = syFalse := rfl
      rw [e0]
      show Calls _ _ #[.agg #[.int .i64 2, .int .i64 0, .int .i64 0, .string ⟨#[]⟩, .string ⟨#[]⟩, .int .u64 (hi 0), .int .u64 (lo 0)]] _ _
      have KO : Hid (∀ W : World, Calls Tryz.prog 58 #[.int .u64 1] W (RetX (.agg #[.int .u64 0, .int .u64 1]) W)) := Lib.hid fun W => of_any 1 (by decide) W
      rw [hl_zero.1, hl_zero.2]
      clear e0 hv
      go_enter Tryz.func68, Tryz.ntmps68
      go_wp2_with fail
      go_region_with (go_at_call 58; (refine (KO.out _).mono ?_); (rintro e w1 ⟨rfl, hb1⟩); (have q0 : w1.cell? ⟨w.heap.size, 0, none⟩ = some (.int .i64 2) := by (rw [hb1.cell (p := ⟨w.heap.size, 0, none⟩) (by simp)]; show (w.alloc _).cell? _ = _; rw [World.cell?_alloc_new]; rfl)); (have q5 : w1.cell? ⟨w.heap.size, 5, none⟩ = some (.int .u64 0) := by (rw [hb1.cell (p := ⟨w.heap.size, 5, none⟩) (by simp)]; show (w.alloc _).cell? _ = _; rw [World.cell?_alloc_new]; rfl)); (have q6 : w1.cell? ⟨w.heap.size, 6, none⟩ = some (.int .u64 0) := by (rw [hb1.cell (p := ⟨w.heap.size, 6, none⟩) (by simp)]; show (w.alloc _).cell? _ = _; rw [World.cell?_alloc_new]; rfl)))
      all_goals
        go_wp2_with fail
        go_ret
        have hb2 := hb1.mono (show w.heap.size ≤ _ by show w.heap.size ≤ (w.alloc _).heap.size; rw [World.size_alloc]; omega)
        exact ⟨rfl, (((Below.refl _ _).alloc (Nat.le_refl _) _).drew).trans hb2⟩
  · have e0 : lfB ⟨3, 0, 0, nm, at_, 0⟩ = if at_.size = 0 then nm else nm ++ syOf ++ at_ := rfl
    rw [e0]
    clear e0 hkn n1 n2 hw hwa
    by_cases h0 : at_.size = 0
    · rw [if_pos h0]
      have hate := size0 h0
      subst hate
      clear h0 hat
      show Calls _ _ #[.agg #[.int .i64 3, .int .i64 0, .int .i64 0, .string nm, .string ⟨#[]⟩, .int .u64 (hi 0), .int .u64 (lo 0)]] _ _
      rw [hl_zero.1, hl_zero.2]
      go_enter Tryz.func68, Tryz.ntmps68
      go_wp2_with fail
      go_quiet (fail)
      go_wp2_with fail
      go_ret
      exact ⟨rfl, below_drewN ((Below.refl _ _).alloc (Nat.le_refl _) _) _⟩
    · rw [if_neg h0]
      have hne : at_.toList.isEmpty = false := by
        rw [List.isEmpty_eq_false_iff]
        intro e
        have := bl_len at_
        unfold bl at this
        rw [ByteArray.toList_eq] at e
        rw [e] at this
        simp at this; omega
      clear h0 hat
      show Calls _ _ #[.agg #[.int .i64 3, .int .i64 0, .int .i64 0, .string nm, .string at_, .int .u64 (hi 0), .int .u64 (lo 0)]] _ _
      rw [hl_zero.1, hl_zero.2]
      go_enter Tryz.func68, Tryz.ntmps68
      go_wp2_with fail
      go_quiet (fail)
      go_wp2_with fail
      go_ret
      exact ⟨rfl, below_drewN ((Below.refl _ _).alloc (Nat.le_refl _) _) _⟩
end Go.Proofs.YtmdifoclojogpaaGreatDoor
