/- The example of the chapter; numbers modulo others. -/
import Derived.Test.YtldgjahpmlafgaaGreatSEnc
import Derived.Test.YtldgjahpmlafgaaGreatJWrite
import Derived.RegionTactic
import Derived.ChangeAlike
import Derived.BigRegion
namespace Go.Proofs.YtldgjahpmlafgaaGreat
open Go.RowKit

set_option maxRecDepth 100000 in
theorem own_read {w : World} {B : Nat} {v : Value} {l : List Nat} (h : Own w B v l) : ∃ A n cap g, v = .slice A n cap ∧ Hid (n = l.length) ∧ ReadsL w g A l ∧ B ≤ g := by
  rcases h.2 with ⟨rfl, h0⟩ | ⟨g, cap, cur, rfl, hg, hh, hn, hc, hsz, htake⟩
  · obtain rfl : l = [] := List.eq_nil_of_length_eq_zero h0
    exact ⟨none, 0, 0, B, rfl, Lib.hid rfl, .inl rfl, Nat.le_refl _⟩
  · have hgl : g < w.heap.size := by
      rcases Nat.lt_or_ge g w.heap.size with h | h
      · exact h
      · rw [Array.getElem?_eq_none h] at hh; cases hh
    refine ⟨_, _, _, g, rfl, Lib.hid rfl, .inr ⟨0, rfl, hgl, fun i hi => ?_⟩, hg⟩
    rw [Nat.zero_add, World.ownsRow.cellAt h i (by omega), cellsOf_get hi]
def egD : SchemaD := ⟨[], [], [], [], [], [], [], [], 1, 2⟩
set_option maxRecDepth 100000 in
theorem eg_e : finE (eSchema wayP egD ws0) = 0 := by decide +kernel
set_option maxRecDepth 100000 in
theorem eg_l : finL (eSchema wayP egD ws0) = [0, 1, 0, 2] ++ List.replicate 16 0 := by decide +kernel
theorem row_nil {α : Type} (sz : Nat) (P : CellP α) (B : Nat) (w : World) : RowV sz P B w (.slice none 0 0) [] := ⟨none, 0, 0, rfl, Lib.hid rfl, Nat.le_refl _, Nat.zero_le _, .inl rfl⟩
theorem eg_at (w : World) : SchemaV w.heap.size w [.slice none 0 0, .slice none 0 0, .slice none 0 0, .slice none 0 0, .slice none 0 0, .slice none 0 0, .slice none 0 0, .slice none 0 0, .int .i64 1, .int .i64 2] egD :=
  ⟨_, _, _, _, _, _, _, _, rfl, row_nil _ _ _ _, row_nil _ _ _ _, row_nil _ _ _ _, row_nil _ _ _ _, row_nil _ _ _ _, row_nil _ _ _ _, row_nil _ _ _ _, row_nil _ _ _ _, by unfold I64; decide, by unfold I64; decide⟩
set_option maxRecDepth 100000 in
theorem mod_any (x n : Int) (hx : I64 x) (hn : 1 ≤ n) (hn2 : n ≤ 1000000000) (w : World) : Calls Tryz.prog 25 #[.int .i64 x, .int .i64 n] w fun e w' => e = .returned (.int .i64 (x % n)) ∧ w = w' := by
  obtain ⟨h1, h2⟩ := hx
  have e1 : -n < x.tmod n := by
    have := Int.lt_tmod_of_pos (a := x) (b := n) (by omega)
    omega
  have e2 : x.tmod n < n := Int.tmod_lt_of_pos x (by omega)
  have e3 : (x.tmod n + n).tmod n = x % n := by
    rw [Int.tmod_eq_emod_of_nonneg (by omega), Int.add_emod_right, Int.tmod_eq_emod]
    split
    · simp
    · rename_i h
      have hd : ((n.natAbs : Nat) : Int) = n := by omega
      rw [hd, Int.sub_emod_right]
      simp
  have h0 : ¬ n < 1 := by omega
  have e4 : wrap64 (x.tmod n + n) = x.tmod n + n := by simp [wrap64]; omega
  have E3 := Lib.hid e3
  have E4 := Lib.hid e4
  clear e1 e2 e3 e4
  go_enter Tryz.func25, Tryz.ntmps25
  go_wp2
  go_ret
  refine ⟨?_, rfl⟩
  rw [E4.out, E3.out]
  rfl
set_option maxRecDepth 100000 in
/-- 'make([]byte, n)': a new block that reads as zeros. -/
theorem mk_zeros (n : Nat) (hn : n ≤ 100000) (W : World) : (Instr.makeSlice 22 (.int .i64 (n : Int)) (.int .i64 (n : Int))).run Tryz.prog W = .ok (.slice (some ⟨W.heap.size, 0, none⟩) n n) (W.alloc (.cells (rowA n fun _ => .int .u8 0) 5)) ∧
    ReadsL (W.alloc (.cells (rowA n fun _ => .int .u8 0) 5)) W.heap.size (some ⟨W.heap.size, 0, none⟩) (List.replicate n 0) := by
  refine ⟨?_, .inr ⟨0, rfl, by simp, fun i hi => ?_⟩⟩
  · rw [← made_row]
    exact run_make_row' 22 5 (.int .u8 0) 1 Tryz.underlying22 info8 rfl .i64 .i64 n (by omega) (by omega) W
  · have hi2 : i < n := by simpa using hi
    rw [Nat.zero_add, World.cell?_alloc_new, rowA_get _ _ _ hi2, List.getD_eq_getElem?_getD, List.getElem?_replicate_of_lt hi2]
    rfl
theorem str_z : (⟨#[0, 1, 0, 2]⟩ : ByteArray) ++ strL (List.replicate 16 0) = strL ([0, 1, 0, 2] ++ List.replicate 16 0) := by decide +kernel
end Go.Proofs.YtldgjahpmlafgaaGreat
