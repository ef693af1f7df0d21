/- Layer 12: the program's small functions: oneMore, oneLess, New, Len, Nodes. -/
import Derived.Test.YtkennilcojbbgaaUMem
import Derived.BigQuiet
namespace Go.Proofs.Ytkennilcojbbgaa
open Go.RowKit
set_option maxRecDepth 100000 in
set_option maxHeartbeats 1000000 in
theorem ut_moreNew {w : World} {X N : Nat} {u v : Value} (hX : w.heap[X]? = some (.cells #[u, v, .int .i64 N] 131 (0, 0))) (hN : N < 1000000000) : Calls Try.prog 66 #[.pointer (some ⟨X, 0, none⟩), .pointer none] w fun e w' => e = .returned (.pointer (some ⟨w.heap.size, 0, none⟩)) ∧ w' = newU w X N := by
  have hlt := heap_ltU hX
  have h1 : (w.alloc (.cells #[.pointer none, .pointer none, .int .i64 0, .bool false, .int .i64 0] 140)).heap[X]? = some (.cells #[u, v, .int .i64 N] 131 (0, 0)) := (heap_alloc_old w _ hlt).trans hX
  have c2 := blk_cell h1 2 _ rfl
  have f2 : (w.alloc (.cells #[.pointer none, .pointer none, .int .i64 0, .bool false, .int .i64 0] 140)).frozen? ⟨X, 2, none⟩ = false := by simp [World.frozen?, h1]
  clear hX h1
  go_enter Try.func66, Try.ntmps66
  go_wp2
  go_ret
  exact ⟨rfl, rfl⟩
set_option maxRecDepth 100000 in
set_option maxHeartbeats 1000000 in
theorem ut_more {w : World} {X b n : Nat} {cs : Array Value} (hb : w.heap[b]? = some (.cells cs 140 (0, 0))) (hn : cs[2]? = some (.int .i64 n)) (hN : n < 1000000000) : Calls Try.prog 66 #[.pointer (some ⟨X, 0, none⟩), .pointer (some ⟨b, 0, none⟩)] w fun e w' => e = .returned (.pointer (some ⟨b, 0, none⟩)) ∧ w' = w.setCell ⟨b, 2, none⟩ (.int .i64 (n + 1 : Nat)) := by
  have c2 := blk_cell hb 2 _ hn
  have f2 : w.frozen? ⟨b, 2, none⟩ = false := by simp [World.frozen?, hb]
  clear hb hn
  go_enter Try.func66, Try.ntmps66
  go_wp2
  go_ret
  exact ⟨rfl, rfl⟩
set_option maxRecDepth 100000 in
set_option maxHeartbeats 1000000 in
theorem ut_less {w : World} {X b n : Nat} {cs : Array Value} (hb : w.heap[b]? = some (.cells cs 140 (0, 0))) (hn : cs[2]? = some (.int .i64 (n + 1 : Nat))) (hn0 : 0 < n) (hN : n < 1000000000) : Calls Try.prog 70 #[.pointer (some ⟨X, 0, none⟩), .pointer (some ⟨b, 0, none⟩)] w fun e w' => e = .returned (.pointer (some ⟨b, 0, none⟩)) ∧ w' = w.setCell ⟨b, 2, none⟩ (.int .i64 n) := by
  have c2 := blk_cell hb 2 _ hn
  have f2 : w.frozen? ⟨b, 2, none⟩ = false := by simp [World.frozen?, hb]
  have e1 : ((n + 1 : Nat) : Int) - 1 = n := by omega
  clear hb hn
  generalize ((n + 1 : Nat) : Int) = m at *
  obtain rfl : m = n + 1 := by omega
  go_enter Try.func70, Try.ntmps70
  go_wp2
  go_ret
  exact ⟨rfl, rfl⟩
set_option maxRecDepth 100000 in
set_option maxHeartbeats 1000000 in
theorem ut_less0 {w : World} {X b N : Nat} {cs : Array Value} {u v : Value} (hb : w.heap[b]? = some (.cells cs 140 (0, 0))) (hn : cs[2]? = some (.int .i64 1)) (hX : w.heap[X]? = some (.cells #[u, v, .int .i64 N] 131 (0, 0))) (hne : X ≠ b) (hN : N < 1000000000) (hN0 : 0 < N) : Calls Try.prog 70 #[.pointer (some ⟨X, 0, none⟩), .pointer (some ⟨b, 0, none⟩)] w fun e w' => e = .returned (.pointer none) ∧ w' = (w.setCell ⟨b, 2, none⟩ (.int .i64 (0 : Nat))).setCell ⟨X, 2, none⟩ (.int .i64 (N - 1 : Nat)) := by
  have c2 := blk_cell hb 2 _ hn
  have f2 : w.frozen? ⟨b, 2, none⟩ = false := by simp [World.frozen?, hb]
  have hX' : (w.setCell ⟨b, 2, none⟩ (.int .i64 0)).heap[X]? = some (.cells #[u, v, .int .i64 N] 131 (0, 0)) := by rw [setHU hne]; exact hX
  have c3 := blk_cell hX' 2 _ rfl
  have f3 : (w.setCell ⟨b, 2, none⟩ (.int .i64 0)).frozen? ⟨X, 2, none⟩ = false := by simp [World.frozen?, hX']
  obtain ⟨M, rfl⟩ : ∃ M, N = M + 1 := ⟨N - 1, by omega⟩
  have e1 : ((M + 1 : Nat) : Int) = (M : Int) + 1 := by omega
  rw [e1] at c3
  clear hb hn hX hX' e1
  go_enter Try.func70, Try.ntmps70
  go_wp2
  go_ret
  exact ⟨rfl, rfl⟩
def bitsU (b : Int) : Nat := (min (max b 1) 128).toNat
theorem bitsU_le (b : Int) : 1 ≤ bitsU b ∧ bitsU b ≤ 128 := by unfold bitsU; omega
set_option maxRecDepth 100000 in
set_option maxHeartbeats 1000000 in
theorem ut_New (b : Int) (w : World) : Calls Try.prog 20 #[.int .i64 b] w fun e w' => e = .returned (.pointer (some ⟨w.heap.size, 0, none⟩)) ∧ w' = w.alloc (.cells #[.int .i64 (bitsU b), .pointer none, .int .i64 0] 131) := by
  have e1 : ((bitsU b : Nat) : Int) = min (max b 1) 128 := by unfold bitsU; omega
  rw [e1]
  clear e1
  go_enter Try.func20, Try.ntmps20
  go_wp2
  go_ret
  exact ⟨rfl, rfl⟩
set_option maxRecDepth 100000 in
set_option maxHeartbeats 1000000 in
theorem ut_Nodes {w : World} {X N : Nat} {u v : Value} (hX : w.heap[X]? = some (.cells #[u, v, .int .i64 N] 131 (0, 0))) : Calls Try.prog 32 #[.pointer (some ⟨X, 0, none⟩)] w fun e w' => e = .returned (.int .i64 N) ∧ w' = w := by
  have c2 := blk_cell hX 2 _ rfl
  clear hX
  go_enter Try.func32, Try.ntmps32
  go_wp2
  go_ret
  exact ⟨rfl, rfl⟩
set_option maxRecDepth 100000 in
set_option maxHeartbeats 1000000 in
theorem ut_Len {w : World} {X bits N : Nat} {A : Pth → Option Nat} {c : Pth → Nat} {th : Pth → Bool} {id : Pth → Int} (h : TrieM w X bits A c th id N) : Calls Try.prog 29 #[.pointer (some ⟨X, 0, none⟩)] w fun e w' => e = .returned (.int .i64 (c [])) ∧ w' = w := by
  have c1 := blk_cell h.box 1 _ rfl
  by_cases hc : 0 < c []
  · obtain ⟨b, hb⟩ := h.has _ hc
    have c2 : w.cell? ⟨b, 2, none⟩ = some (.int .i64 (c [])) := blk_cell (h.node _ _ hb) 2 _ rfl
    have e1 : ptU (lvU A c []) = .pointer (some ⟨b, 0, none⟩) := by unfold lvU; rw [if_pos hc, hb]; rfl
    rw [e1] at c1
    clear h hb e1 hc
    generalize (c [] : Int) = k at *
    go_enter Try.func29, Try.ntmps29
    go_wp2
    go_ret
    exact ⟨rfl, rfl⟩
  · have e1 : ptU (lvU A c []) = .pointer none := by unfold lvU; rw [if_neg hc]; rfl
    rw [e1] at c1
    rw [show c [] = 0 by omega]
    clear h e1 hc
    go_enter Try.func29, Try.ntmps29
    go_wp2
    go_ret
    exact ⟨rfl, rfl⟩
set_option maxRecDepth 100000 in
set_option maxHeartbeats 1000000 in
theorem ut_LenNil (w : World) : Calls Try.prog 29 #[.pointer none] w fun e w' => e = .returned (.int .i64 0) ∧ w' = w := by
  go_enter Try.func29, Try.ntmps29
  go_wp2
  go_ret
  exact ⟨rfl, rfl⟩
end Go.Proofs.Ytkennilcojbbgaa
