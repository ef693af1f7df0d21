/- Package lexer: copies of texts, kinds of words, tokens. -/
import Derived.Test.YtoiofbpmgihkfaaDoorLTok
namespace Go.Proofs.YtoiofbpmgihkfaaDoor
open Go.RowKit

set_option maxRecDepth 100000 in
set_option maxHeartbeats 4000000 in
theorem st_clone0 (s : ByteArray) (hs : s.size ≤ 100000) (w : World) : Calls Tryd.prog 58 #[.string s] w (RetX (.string s) w) := by
  by_cases h0 : s.size = 0
  · have e : s = ⟨#[]⟩ := ByteArray.ext (Array.eq_empty_of_size_eq_zero h0)
    subst e
    go_enter Tryd.func58, Tryd.ntmps58
    go_wp2
    go_ret
    exact ⟨rfl, Below.refl _ _⟩
  · obtain ⟨i0, hi0⟩ : ∃ i, Tryd.prog.info? 5 = some i := Option.isSome_iff_exists.1 (by kernel_rfl)
    have hz0 : i0.zero = some (.int .u8 0) := by
      have : (Tryd.prog.info? 5).map (·.zero) = some (some (.int .u8 0)) := by kernel_rfl
      rw [hi0] at this; simpa using this
    have hz1 : i0.size = 1 := by
      have : (Tryd.prog.info? 5).map (·.size) = some 1 := by kernel_rfl
      rw [hi0] at this; simpa using this
    have hz2 : i0.bytes = 1 := by
      have : (Tryd.prog.info? 5).map (·.bytes) = some 1 := by kernel_rfl
      rw [hi0] at this; simpa using this
    have hinfo : (Tryd.prog.info? 5).map (·.size) = some 1 := by rw [hi0]; simp [hz1]
    have hco : Tryd.prog.cellsOf 5 = 1 := by simp [Program.cellsOf, hi0, hz1]
    obtain ⟨M, hM⟩ : ∃ M, M = madeCells (Value.int .u8 0).cells (((s.size : Nat) : Int).toNat * i0.size) := ⟨_, rfl⟩
    have hMs : M.size = s.size := by rw [hM, size_madeCells, hz1]; simp
    have hmk : ∀ W : World, (Instr.makeSlice 22 (.int .i64 (s.size : Int)) (.int .i64 (s.size : Int))).run Tryd.prog W = .ok (.slice (some ⟨W.heap.size, 0, none⟩) s.size s.size) (W.alloc (.cells M 5)) := fun W => by
      have h := run_make (P := Tryd.prog) W 22 5 i0 (.int .u8 0) Tryd.underlying22 hi0 hz0 .i64 .i64 (s.size : Int) (s.size : Int) (by omega) (by omega) (by rw [hz2]; omega) (by omega)
      rw [← hM] at h
      simpa using h
    clear hM
    have hcp := Lib.run_copy_row_string (P := Tryd.prog) (w.alloc (.cells M 5)) 22 9 3 5 w.heap.size 0 s.size s.size s M 5 Tryd.underlying22 hinfo (heap_alloc_new w _) (Nat.le_refl _) (by omega)
    obtain ⟨Y, hY⟩ : ∃ Y, Y = (M.toList.take 0 ++ Lib.byteCells s.data.toList ++ M.toList.drop (0 + s.size)).toArray := ⟨_, rfl⟩
    rw [← hY] at hcp
    have hYl : Y.toList = Lib.byteCells s.data.toList := by
      rw [hY, List.toList_toArray, List.take_zero, List.nil_append, List.drop_of_length_le (by rw [Array.length_toList]; omega), List.append_nil]
    have hYs : Y.size = s.size := by rw [← Array.length_toList, hYl, Lib.byteCells_length, ← Lib.size_eq]
    have hgY : ((w.alloc (.cells M 5)).setRow w.heap.size Y).heap[w.heap.size]? = some (.cells Y 5 (0, 0)) := setRow_heap _ _ M _ 5 (0, 0) (heap_alloc_new w _)
    have hne : s.data.toList ≠ [] := fun e => h0 (by rw [Lib.size_eq, e]; rfl)
    have hUS := Lib.run_unsafeString_row (P := Tryd.prog) (w := (w.alloc (.cells M 5)).setRow w.heap.size Y) 93 3 9 5 Tryd.underlying93 hco w.heap.size Y.size (by unfold World.shape?; rw [hgY]) s.data.toList hne (by rw [← Lib.size_eq]; omega) (by rw [← Lib.size_eq]; omega)
      (fun j x hx => Lib.cells_of_row hgY Y.size j _ (by rw [List.take_of_length_le (by rw [Array.length_toList]; exact Nat.le_refl _), hYl]; simp [Lib.byteCells, hx]))
    rw [← Lib.size_eq] at hUS
    clear hY
    go_enter Tryd.func58, Tryd.ntmps58
    go_wp2
    go_ret
    have hb1 : Below w.heap.size w (w.alloc (.cells M 5)) := (Below.refl _ w).alloc (Nat.le_refl _) _
    have hb2 : Below w.heap.size (w.alloc (.cells M 5)) ((w.alloc (.cells M 5)).setRow w.heap.size Y) := ⟨rfl, rfl, rfl, by simp, fun k hk => setRow_other _ _ _ _ (by omega)⟩
    exact ⟨rfl, Lib.below_freeze (hb1.trans hb2) (p := ⟨w.heap.size, 0, none⟩) (Nat.le_refl _) _⟩
set_option maxRecDepth 100000 in
set_option maxHeartbeats 1000000 in
theorem st_clone (s : ByteArray) (hs : s.size ≤ 100000) (w : World) : Calls Tryd.prog 43 #[.string s] w (RetX (.string s) w) := by
  go_enter Tryd.func43, Tryd.ntmps43
  go_wp2_with (go_at_call 58; refine (st_clone0 s hs _).mono ?_; rintro e w1 ⟨rfl, hb⟩)
  go_ret
  exact ⟨rfl, hb⟩
set_option maxRecDepth 100000 in
set_option maxHeartbeats 1000000 in
theorem lx_isLit (s : ByteArray) (hs : s.size < 9223372036854775807) (w : World) : Calls Tryd.prog 42 #[.string s] w (RetX (.bool (litV s).isSome) w) := by
  have K : Hid (∀ W, Calls Tryd.prog 57 #[.string s] W (RetNB (((litV s).getD 0 : Nat) : Int) (litV s).isSome W)) := Lib.hid fun W => nn_literal s hs W
  generalize (((litV s).getD 0 : Nat) : Int) = z at K
  generalize (litV s).isSome = o at K ⊢
  go_enter Tryd.func42, Tryd.ntmps42
  go_wp2_with (go_at_call 57; refine (K.out _).mono ?_; rintro e w1 ⟨rfl, hb⟩)
  go_ret
  exact ⟨rfl, hb.alloc hb.size _⟩
/-- a word's kind: 2 a name, 1 a literal, 0 neither -/
def kindN (s : ByteArray) : Nat := if isL (bt s 0) = true then 2 else if (litV s).isSome = true then 1 else 0
/-- two results -/
def RetKB (k : Int) (b : Bool) (w : World) (e : Ending) (w' : World) : Prop := e = .returned (.tuple #[.int .i64 k, .bool b]) ∧ Below w.heap.size w w'
set_option maxRecDepth 100000 in
set_option maxHeartbeats 2000000 in
theorem lx_kindOf (s : ByteArray) (h0 : 0 < s.size) (hs : s.size < 9223372036854775807) (w : World) : Calls Tryd.prog 26 #[.string s] w (RetKB (kindN s : Nat) (decide (kindN s ≠ 0)) w) := by
  have KL : Hid (∀ W, Calls Tryd.prog 42 #[.string s] W (RetX (.bool (litV s).isSome) W)) := Lib.hid fun W => lx_isLit s hs W
  obtain ⟨o, ho⟩ : ∃ o, (litV s).isSome = o := ⟨_, rfl⟩
  obtain ⟨c, hc⟩ : ∃ c, bt s 0 = c := ⟨_, rfl⟩
  have hbyte : (s[0]'h0).toNat = c := by rw [bt_at, hc]
  obtain ⟨b, hb⟩ : ∃ b, isL c = b := ⟨_, rfl⟩
  have KC : Hid (∀ W, Calls Tryd.prog 41 #[.int .u8 (c : Int)] W fun e w' => e = .returned (.bool b) ∧ W = w') := Lib.hid fun W => by rw [← hb]; exact lx_letter c W
  have h1 : (0 : Int) < (s.size : Int) := by omega
  have hk : kindN s = if b = true then 2 else if o = true then 1 else 0 := by unfold kindN; rw [hc, hb, ho]
  rw [hk]
  rw [ho] at KL
  clear hc hb ho hk
  cases b
  · cases o
    · go_enter Tryd.func26, Tryd.ntmps26
      go_wp2_with (first
        | (go_at_call 41; refine (KC.out _).mono ?_; rintro e w1 ⟨rfl, rfl⟩)
        | (go_at_call 42; refine (KL.out _).mono ?_; rintro e w1 ⟨rfl, hb2⟩))
      refine bodyPost_ret (v := .tuple #[.int .i64 0, .bool false]) (by simp [results, Tryd.results26, go_sem]) rfl ⟨by simp, hb2⟩
    · go_enter Tryd.func26, Tryd.ntmps26
      go_wp2_with (first
        | (go_at_call 41; refine (KC.out _).mono ?_; rintro e w1 ⟨rfl, rfl⟩)
        | (go_at_call 42; refine (KL.out _).mono ?_; rintro e w1 ⟨rfl, hb2⟩))
      refine bodyPost_ret (v := .tuple #[.int .i64 1, .bool true]) (by simp [results, Tryd.results26, go_sem]) rfl ⟨by simp, hb2⟩
  · go_enter Tryd.func26, Tryd.ntmps26
    go_wp2_with (first
      | (go_at_call 41; refine (KC.out _).mono ?_; rintro e w1 ⟨rfl, rfl⟩)
      | (go_at_call 42; refine (KL.out _).mono ?_; rintro e w1 ⟨rfl, hb2⟩))
    refine bodyPost_ret (v := .tuple #[.int .i64 2, .bool true]) (by simp [results, Tryd.results26, go_sem]) rfl ⟨by simp, Below.refl _ _⟩
set_option maxRecDepth 100000 in
set_option maxHeartbeats 2000000 in
theorem lx_token (k : Int) (s : ByteArray) (a : Int) (hs : s.size ≤ 100000) (w : World) : Calls Tryd.prog 27 #[.int .i64 k, .string s, .int .i64 a] w (RetX (.agg #[.int .i64 k, .string s, .int .i64 a]) w) := by
  go_enter Tryd.func27, Tryd.ntmps27
  go_wp2_with (go_at_call 43; refine (st_clone s hs _).mono ?_; rintro e w1 ⟨rfl, hb⟩; obtain ⟨hc, hf, hz⟩ := after (w.heap.size + 1) hb (by simp) (by simp))
  refine bodyPost_ret (v := .agg #[.int .i64 k, .string s, .int .i64 a]) (by simp [results, Tryd.results27, go_sem, hc]) rfl ⟨rfl, ?_⟩
  exact ((((((Below.refl _ _).alloc (by simp) _).trans (hb.mono (by simp))).setCell (by simp) _).setCell (by simp) _).setCell (by simp) _)
end Go.Proofs.YtoiofbpmgihkfaaDoor
