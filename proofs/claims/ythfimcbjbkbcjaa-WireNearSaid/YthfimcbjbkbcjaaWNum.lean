/- Numbers appended: by package wire and by the reference. -/
import Derived.Test.YthfimcbjbkbcjaaWNew
namespace Go.Proofs.Ythfimcbjbkbcjaa
open Go.RowKit

/-- Byte i of the number n. -/
def byteAt (n : Int) (i : Nat) : Nat := (n / 2 ^ (8 * i) % 256).toNat
/-- The first j bytes of the k low bytes of n, the highest first. -/
def encT (n : Int) (k : Nat) : Nat → List Nat
  | 0 => []
  | j + 1 => encT n k j ++ [byteAt n (k - 1 - j)]
def encU (n : Int) (k : Nat) : List Nat := encT n k k
theorem encT_len (n : Int) (k : Nat) : ∀ j, (encT n k j).length = j
  | 0 => rfl
  | j + 1 => by rw [encT, List.length_append, encT_len n k j]; rfl
theorem encU_len (n : Int) (k : Nat) : (encU n k).length = k := encT_len n k k
theorem byteAt_lt (n : Int) (i : Nat) : byteAt n i < 256 := by unfold byteAt; omega
theorem encT_small (n : Int) (k : Nat) : ∀ j, Small (encT n k j)
  | 0 => Small.nil
  | j + 1 => (encT_small n k j).append fun x hx => by rw [List.mem_singleton.1 hx]; exact byteAt_lt n _
theorem encU_small (n : Int) (k : Nat) : Small (encU n k) := encT_small n k k

/-- The slice v is a row of one's own, not below block B, and holds the bytes l. -/
def Own (w : World) (B : Nat) (v : Value) (l : List Nat) : Prop := w.ownsRow B 5 1 v l.length (cellsOf l)
/-- Where the row of v' is that grew out of v: in the same block, or in a new one. -/
def At (w : World) (v v' : Value) : Prop := v'.ownBlock = v.ownBlock ∨ ∃ g, v'.ownBlock = some g ∧ w.heap.size ≤ g
/-- The call returns the row v grown to l. -/
def Grows (B : Nat) (l : List Nat) (v : Value) (w : World) (en : Ending) (w' : World) : Prop := ∃ v', en = .returned v' ∧ Own w' B v' l ∧ w.grownBy w' v.ownBlock ∧ At w v v'
theorem Own.base {w : World} {B : Nat} {v : Value} {l : List Nat} (h : Own w B v l) {B' : Nat} (hb : B' ≤ B) : Own w B' v l := World.ownsRow.mono h hb
theorem Own.kept {w w' : World} {B : Nat} {v : Value} {l : List Nat} {row : Option Nat} (h : Own w B v l) (hg : w.grownBy w' row) (hr : v.ownBlock = none ∨ v.ownBlock ≠ row) : Own w' B v l := World.ownsRow.kept h hg hr
theorem Own.below {w w' : World} {B : Nat} {v : Value} {l : List Nat} (h : Own w B v l) (hb : Below w.heap.size w w') : Own w' B v l :=
  h.kept (grown_of_below hb none) (by cases v.ownBlock <;> simp)
/-- A row that grew out of v, or v: a step of grownBy composes. -/
theorem grown_step {w w1 w2 : World} {v v1 : Value} (h : w.grownBy w1 v.ownBlock) (ha : At w v v1) (k : w1.grownBy w2 v1.ownBlock) : w.grownBy w2 v.ownBlock :=
  h.andThen k fun j hj => by
    rcases ha with e | ⟨g, e, hg⟩
    · exact .inr (by rw [← e, hj])
    · rw [e] at hj
      injection hj with hj
      exact .inl (by omega)
theorem At.step {w w1 : World} {row : Option Nat} {v v1 v2 : Value} (h : w.grownBy w1 row) (ha : At w v v1) (k : At w1 v1 v2) : At w v v2 := by
  rcases k with e | ⟨g, e, hg⟩
  · rcases ha with e1 | ⟨g1, e1, hg1⟩
    · exact .inl (e.trans e1)
    · exact .inr ⟨g1, e.trans e1, hg1⟩
  · exact .inr ⟨g, e, Nat.le_trans h.size hg⟩

theorem Own.snoc {w : World} {B : Nat} {v : Value} {l : List Nat} {x : Int} {y : Nat} (h : w.ownsRow B 5 1 v (l.length + 1) (cellsOf l ++ [.int .u8 x])) (hx : (y : Int) = x) : Own w B v (l ++ [y]) := by
  subst hx
  unfold Own
  rw [cellsOf_append, List.length_append]
  exact h
theorem byteAt_int (n : Int) (i : Nat) : (byteAt n i : Int) = n / 2 ^ (8 * i) % 256 := by
  unfold byteAt
  rw [Int.toNat_of_nonneg (Int.emod_nonneg _ (by decide))]
set_option maxRecDepth 100000 in
set_option maxHeartbeats 1000000 in
theorem num_any (v : Value) (n : Int) (k : Nat) (l : List Nat) (B : Nat) (w : World) (hk : k ≤ 4) (hn1 : -9223372036854775808 ≤ n) (hn2 : n ≤ 9223372036854775807) (hl : l.length ≤ 4000000) (hB : B ≤ w.heap.size) (hO : Own w B v l) :
    Calls Try.prog 53 #[v, .int .i64 n, .int .i64 k] w (Grows B (l ++ encU n k) v w) := by
  obtain ⟨i0, hi0, hz0, hy1, hy2⟩ := info_parts info_w8
  have HI := Lib.hid hi0
  have HZ := Lib.hid hz0
  have HY1 := Lib.hid hy1
  have HY2 := Lib.hid hy2
  have HO := Lib.hid hO
  have HN1 := Lib.hid hn1
  have HN2 := Lib.hid hn2
  clear hi0 hz0 hy1 hy2 hO hn1 hn2
  go_enter Try.func53, Try.ntmps53
  go_wp2
  go_loopw [0, 7] (fun v' i w' => ∃ j : Nat, j ≤ k ∧ i = .int .i64 ((k : Int) - 1 - j) ∧ Own w' B v' (l ++ encT n k j) ∧ w.grownBy w' v.ownBlock ∧ At w v v') (fun _ i _ => (intOf i + 1).toNat)
  case atStart => exact ⟨0, by omega, by simp, by simpa [encT] using HO.out, World.grownBy.refl _ _, .inl rfl⟩
  case round =>
    obtain ⟨j, hj, rfl, hW, hg, ha⟩ := hrel
    by_cases hlt : j < k
    · obtain ⟨i, hi⟩ : ∃ i : Nat, (k : Int) - 1 - j = i := ⟨k - 1 - j, by omega⟩
      have hi3 : i ≤ 3 := by omega
      have h0 : 0 ≤ (i : Int) := by omega
      have hi4 : (i : Int) ≤ 3 := by omega
      have HI2 := Lib.hid hi
      rw [hi]
      clear hi
      have hlen : (l ++ encT n k j).length + 1 ≤ 4000010 := by rw [List.length_append, encT_len]; omega
      have HLen := Lib.hid hlen
      have HB := Lib.hid (Nat.le_trans hB hg.size)
      have hW' := Lib.hid hW
      have hg' := Lib.hid hg
      have ha' := Lib.hid ha
      clear hW hg ha hlen
      go_wp2_with (at_builtin; (refine wpList_append_own_at _ rfl (.tmp 14) (.tmp 20) 23 rfl B 5 i0 _ 1 1 Try.underlying23 HI.out HZ.out HY1.out HY2.out rfl (by omega) _ _ (cellsOf (l ++ encT n k j)) rfl (hW'.out.alloc _) ⟨wr.heap.size, 0, none⟩ 1 1 [.int .u8 (n / 2 ^ (8 * i) % 256)] rfl rfl (cell_one_new _ _ _) (by simp [Value.oneCell']) (by have := HLen.out; unfold maxLen; omega) (by have := HLen.out; omega) (by have := HB.out; simp; omega) ?_; intro v1 w1 hown1 hg1 _ hat1))
      go_roundw
      case rel =>
        refine ⟨j + 1, by omega, by have := HI2.out; (congr 1 <;> omega), ?_, ?_, ?_⟩
        · have hij : k - 1 - j = i := by have := HI2.out; omega
          rw [encT, hij, ← List.append_assoc]
          exact Own.snoc hown1 (byteAt_int n i)
        · exact grown_step hg'.out ha'.out ((grown_alloc wr _ _).trans hg1)
        · exact At.step hg'.out ha'.out (hat1.imp id fun e => ⟨_, e, by simp⟩)
      case measure => simp [intOf]
    · have h0 : decide (0 ≤ (k : Int) - 1 - j) = false := by simp; omega
      obtain rfl : j = k := by omega
      go_wp2
      go_ret
      exact ⟨_, rfl, hW, hg, ha⟩
set_option maxRecDepth 100000 in
set_option maxHeartbeats 1000000 in
theorem rnum_any (v : Value) (n : Int) (k : Nat) (l : List Nat) (B : Nat) (w : World) (hk0 : 1 ≤ k) (hk : k ≤ 4) (hn1 : -9223372036854775808 ≤ n) (hn2 : n ≤ 9223372036854775807) (hl : l.length ≤ 4000000) (hB : B ≤ w.heap.size) (hO : Own w B v l) :
    Calls Try.prog 31 #[v, .int .i64 n, .int .i64 k] w (Grows B (l ++ encU n k) v w) := by
  obtain ⟨i0, hi0, hz0, hy1, hy2⟩ := info_parts info_w8
  have HI := Lib.hid hi0
  have HZ := Lib.hid hz0
  have HY1 := Lib.hid hy1
  have HY2 := Lib.hid hy2
  have HO := Lib.hid hO
  have HN1 := Lib.hid hn1
  have HN2 := Lib.hid hn2
  clear hi0 hz0 hy1 hy2 hO hn1 hn2
  have q1 : decide ((k : Int) < 1) = false := by simp; omega
  have q2 : decide (4 < (k : Int)) = false := by simp; omega
  go_enter Try.func31, Try.ntmps31
  go_wp2
  go_loopw [0, 7] (fun v' i w' => ∃ j : Nat, j ≤ k ∧ i = .int .i64 ((k : Int) - 1 - j) ∧ Own w' B v' (l ++ encT n k j) ∧ w.grownBy w' v.ownBlock ∧ At w v v') (fun _ i _ => (intOf i + 1).toNat)
  case atStart => exact ⟨0, by omega, by simp, by simpa [encT] using HO.out, World.grownBy.refl _ _, .inl rfl⟩
  case round =>
    obtain ⟨j, hj, rfl, hW, hg, ha⟩ := hrel
    by_cases hlt : j < k
    · obtain ⟨i, hi⟩ : ∃ i : Nat, (k : Int) - 1 - j = i := ⟨k - 1 - j, by omega⟩
      have hi3 : i ≤ 3 := by omega
      have h0 : 0 ≤ (i : Int) := by omega
      have hi4 : (i : Int) ≤ 3 := by omega
      have HI2 := Lib.hid hi
      rw [hi]
      clear hi
      have hlen : (l ++ encT n k j).length + 1 ≤ 4000010 := by rw [List.length_append, encT_len]; omega
      have HLen := Lib.hid hlen
      have HB := Lib.hid (Nat.le_trans hB hg.size)
      have hW' := Lib.hid hW
      have hg' := Lib.hid hg
      have ha' := Lib.hid ha
      clear hW hg ha hlen
      go_wp2_with (at_builtin; (refine wpList_append_own_at _ rfl (.tmp 21) (.tmp 28) 23 rfl B 5 i0 _ 1 1 Try.underlying23 HI.out HZ.out HY1.out HY2.out rfl (by omega) _ _ (cellsOf (l ++ encT n k j)) rfl (hW'.out.alloc _) ⟨wr.heap.size, 0, none⟩ 1 1 [.int .u8 (n / 2 ^ (8 * i) % 256)] rfl rfl (cell_one_new _ _ _) (by simp [Value.oneCell']) (by have := HLen.out; unfold maxLen; omega) (by have := HLen.out; omega) (by have := HB.out; simp; omega) ?_; intro v1 w1 hown1 hg1 _ hat1))
      go_roundw
      case rel =>
        refine ⟨j + 1, by omega, by have := HI2.out; (congr 1 <;> omega), ?_, ?_, ?_⟩
        · have hij : k - 1 - j = i := by have := HI2.out; omega
          rw [encT, hij, ← List.append_assoc]
          exact Own.snoc hown1 (byteAt_int n i)
        · exact grown_step hg'.out ha'.out ((grown_alloc wr _ _).trans hg1)
        · exact At.step hg'.out ha'.out (hat1.imp id fun e => ⟨_, e, by simp⟩)
      case measure => simp [intOf]
    · have h0 : decide (0 ≤ (k : Int) - 1 - j) = false := by simp; omega
      obtain rfl : j = k := by omega
      go_wp2
      go_ret
      exact ⟨_, rfl, hW, hg, ha⟩
theorem rnum_bad (v : Value) (n k : Int) (w : World) (hk : k < 1 ∨ 4 < k) : Calls Try.prog 31 #[v, .int .i64 n, .int .i64 k] w fun e w' => e = .returned v ∧ w = w' := by
  by_cases h : k < 1
  · clear hk
    go_enter Try.func31, Try.ntmps31
    go_wp2
    go_ret
    exact ⟨rfl, rfl⟩
  · have h1 : decide (k < 1) = false := by simp; omega
    have h2 : 4 < k := by omega
    clear hk h
    go_enter Try.func31, Try.ntmps31
    go_wp2
    go_ret
    exact ⟨rfl, rfl⟩
end Go.Proofs.Ythfimcbjbkbcjaa
