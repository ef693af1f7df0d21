/- withRoom of package wire: a copy of its own. -/
import Derived.Test.YthfimcbjbkbcjaaWPure
import Derived.Laws.CopyOwn
namespace Go.Proofs.Ythfimcbjbkbcjaa
open Go.RowKit

/-- The call returns a row of its own that holds the bytes l; nothing that there was is changed. -/
def RetL (l : List Nat) (m : Nat) (w : World) (en : Ending) (w' : World) : Prop := ∃ A n cap g, en = .returned (.slice A n cap) ∧ Hid (n = l.length) ∧ w'.ownsRow w.heap.size 5 1 (.slice A n cap) n (cellsOf l) ∧ Below w.heap.size w w' ∧ w.heap.size ≤ g ∧ ReadsL w' g A l ∧ n ≤ cap ∧ cap ≤ maxLen ∧ cap ≤ n + m ∧ g < w'.heap.size
theorem info_w8 : (Try.prog.info? 5).map (fun i => (i.zero, i.size, i.bytes)) = some (some (.int .u8 0), 1, 1) := by kernel_rfl
theorem size_w8 : (Try.prog.info? 5).map (·.size) = some 1 := by kernel_rfl
theorem room_any (A : Option Addr) (D n cap m : Nat) (l : List Nat) (w : World) (hr : ReadsL w D A l) (hl : l.length = n) (hn : n ≤ 2000000) (hm : m ≤ 2000000) :
    Calls Try.prog 37 #[.slice A n cap, .int .i64 m] w (RetL l m w) := by
  obtain ⟨i0, hi0, hz0, hy1, hy2⟩ := info_parts info_w8
  have hmk : ∀ w : World, (Instr.makeSlice 23 (.int .i64 n) (.int .i64 ((n : Int) + (m : Int)))).run Try.prog w = .ok (.slice (some ⟨w.heap.size, 0, none⟩) n (n + m)) (w.alloc (.cells (List.replicate (n + m) (Value.int .u8 0)).toArray 5)) := fun w => by
    have h := run_make (P := Try.prog) w 23 5 i0 _ Try.underlying23 hi0 hz0 .i64 .i64 (n : Int) ((n : Int) + (m : Int)) (by omega) (by omega) (by rw [hy2]; omega) (by omega)
    rw [h, hy1]
    congr 3
    apply Array.ext'
    have e : ((n : Int) + (m : Int)).toNat * 1 = n + m := by omega
    exact (congrArg (fun k => (madeCells #[Value.int .u8 0] k).toList) e).trans (toList_madeCells_one _ _)
  have HL := Lib.hid hl
  have HR := Lib.hid hr
  clear hl hr hi0 hz0 hy1 hy2
  have hm1 : (n : Int) ≤ 2000000 := by omega
  have hm2 : (m : Int) ≤ 2000000 := by omega
  have hpos : Hid (0 < (cellsOf l).length → some (⟨w.heap.size, 0, none⟩ : Addr) = some ⟨w.heap.size, 0, none⟩ ∧ ∃ ad, A = some ad ∧ ∀ j v, (cellsOf l)[j]? = some v → (w.alloc (Obj.cells (Array.replicate (n + m) (Value.int IntKind.u8 0)) 5)).cell? (ad.add j) = some v) := Lib.hid (fun h0 => by
    rw [cellsOf_len] at h0
    obtain ⟨o, rfl, hd, hc⟩ := HR.out.resolve_left (fun e => by rw [e] at h0; simp at h0)
    refine ⟨rfl, _, rfl, fun j v hv => ?_⟩
    have hj : j < l.length := by have := (List.getElem?_eq_some_iff.1 hv).1; rwa [cellsOf_len] at this
    rw [cellsOf_get hj] at hv
    rw [Addr.add_mid, World.cell?_alloc_past _ _ _ hd, hc j hj, hv])
  go_enter Try.func37, Try.ntmps37
  have HM := Lib.hid (List.length_replicate (n := n + m) (a := Value.int .u8 0))
  go_wp2_with ((with_reducible refine wpList_copy_splice rfl (.tmp 13) (.tmp 14) 23 23 rfl 5 Try.underlying23 size_w8 (some ⟨w.heap.size, 0, none⟩) A n (n + m) n cap rfl rfl w.heap.size 0 (List.replicate (n + m) (Value.int .u8 0)) 5 (by rw [heap_alloc_new]; simp) (cellsOf l) (by rw [cellsOf_len, HL.out]; simp) hpos.out (by rw [cellsOf_len, HL.out, HM.out]; omega) (cellsOf_one l) w.heap.size w ((Below.refl _ _).alloc (Nat.le_refl _) _) (Nat.le_refl _) ?_); rintro w' hw hb)
  go_ret
  have hL := HL.out
  have hle : w.heap.size < w'.heap.size := by
    rcases Nat.lt_or_ge w.heap.size w'.heap.size with h | h
    · exact h
    · have h2 := hw.out; rw [Array.getElem?_eq_none h] at h2; cases h2
  have hcell : ∀ i, i < l.length → w'.cell? ⟨w.heap.size, 0 + i, none⟩ = some (.int .u8 (l.getD i 0)) := fun i hi => by
    rw [cell_of_row w' w.heap.size (0 + i) _ _ _ hw.out, Nat.zero_add]
    simp only [splice, List.take_zero, List.nil_append, List.getElem?_toArray]
    rw [List.getElem?_append_left (by rw [cellsOf_len]; exact hi), cellsOf_get hi]
  refine ⟨_, _, _, w.heap.size, rfl, Lib.hid hL.symm, ⟨by rw [cellsOf_len, hL, Nat.mul_one], .inr ⟨w.heap.size, n + m, _, rfl, Nat.le_refl _, hw.out, by omega, by unfold maxLen; omega, ?_, ?_⟩⟩, hb, Nat.le_refl _, .inr ⟨0, rfl, hle, hcell⟩, by omega, by unfold maxLen; omega, Nat.le_refl _, hle⟩
  · simp only [splice, List.take_zero, List.nil_append, List.size_toArray, List.length_append, List.length_drop, HM.out, cellsOf_len, hL]
    omega
  · simp only [splice, List.take_zero, List.nil_append]
    rw [List.take_append_of_le_length (by rw [cellsOf_len]; omega), List.take_of_length_le (by rw [cellsOf_len]; omega)]
theorem room_0 (A : Option Addr) (D n cap : Nat) (l : List Nat) (w : World) (hr : ReadsL w D A l) (hl : l.length = n) (hn : n ≤ 2000000) :
    Calls Try.prog 37 #[.slice A n cap, .int .i64 0] w (RetL l 0 w) := room_any A D n cap 0 l w hr hl hn (by omega)
end Go.Proofs.Ythfimcbjbkbcjaa
