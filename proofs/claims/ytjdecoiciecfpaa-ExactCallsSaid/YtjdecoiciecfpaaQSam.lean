/- Layer 11: the law's 'same' of two rows of pairs. -/
import Derived.Test.YtjdecoiciecfpaaQOrdP
import Derived.Test.YtjdecoiciecfpaaQEq
namespace Go.Proofs.Ytjdecoiciecfpaa
open Go.RowKit Go.Maps Go.Sort
theorem eqI_self (p : Pt) (w : World) : (Op.equalIn 10000 29 (.agg #[.int .u64 (hi p.a), .int .u64 (lo p.a), .int .u64 (hi p.b), .int .u64 (lo p.b), .int .u64 (hi p.c), .int .u64 (lo p.c), .int .u64 (hi p.d), .int .u64 (lo p.d)]) (.agg #[.int .u64 (hi p.a), .int .u64 (lo p.a), .int .u64 (hi p.b), .int .u64 (lo p.b), .int .u64 (hi p.c), .int .u64 (lo p.c), .int .u64 (hi p.d), .int .u64 (lo p.d)])).run Try.prog w = .ok true w := by
  have h := eqI_pt p p w
  rw [decide_eq_true rfl] at h
  unfold ptV at h
  exact h
theorem below_dnQ {B : Nat} {a w : World} (h : Below B a w) (n : Nat) : Below B a (w.drewN n) := ⟨h.os, h.tape, h.output, h.size, h.block⟩
set_option maxRecDepth 100000 in
set_option maxHeartbeats 4000000 in
theorem qs_same {w : World} {A1 A2 : Option Addr} {n c1 c2 : Nat} {pts : List Pt} {f : Pt → Int} (h1 : PairsR w A1 pts f) (h2 : PairsR w A2 pts f) (hl : pts.length = n) (hc1 : n ≤ c1) (hc2 : n ≤ c2) (hn : n ≤ 100000) : Calls Try.prog 38 #[.slice A1 n c1, .slice A2 n c2] w (RetX (.bool true) w) := by
  have H1 := Lib.hid h1
  have H2 := Lib.hid h2
  have HL := Lib.hid hl
  clear h1 h2 hl
  go_enter Try.func38, Try.ntmps38
  go_wp2_with fail
  go_loopw [14] (fun i W => ∃ k : Nat, k ≤ n ∧ i = .int .i64 k ∧ Below w.heap.size w W) (fun i _ => n - (intOf i).toNat)
  case atStart => exact ⟨0, Nat.zero_le _, rfl, Below.refl _ _⟩
  case round =>
    obtain ⟨k, hk, rfl, hb⟩ := hrel
    have HB := Lib.hid hb
    clear hb
    by_cases hlt : k < n
    · obtain ⟨p, hp⟩ : ∃ p, pts[k]? = some p := ⟨_, List.getElem?_eq_getElem (by rw [HL.out]; exact hlt)⟩
      obtain ⟨g1, rfl, L1, hcell1⟩ := (H1.out.below HB.out).resolve_left (fun e => by rw [e] at hp; simp at hp)
      obtain ⟨g2, rfl, L2, hcell2⟩ := (H2.out.below HB.out).resolve_left (fun e => by rw [e] at hp; simp at hp)
      have h1 := hcell1 k p hp
      have h2 := hcell2 k p hp
      unfold encP at h1 h2
      generalize f p = v at h1 h2
      have hE := eqI_self p
      have hg : Try.prog.eqGuardType Try.prog.depth 29 = false := by kernel_rfl
      have a0 : wr.cell? ⟨g1, k * 9, none⟩ = some (.int .u64 (hi p.a)) := h1 0 (by omega)
      have b0 : (wr.alloc (.cells #[.int .u64 (hi p.a), .int .u64 (lo p.a), .int .u64 (hi p.b), .int .u64 (lo p.b), .int .u64 (hi p.c), .int .u64 (lo p.c), .int .u64 (hi p.d), .int .u64 (lo p.d), .int .i64 v] 84)).cell? ⟨g2, k * 9, none⟩ = some (.int .u64 (hi p.a)) := (((Below.refl _ wr).alloc (Nat.le_refl _) _).cell (p := ⟨g2, k * 9, none⟩) L2).trans (h2 0 (by omega))
      have a1 : wr.cell? ⟨g1, k * 9 + 1, none⟩ = some (.int .u64 (lo p.a)) := h1 1 (by omega)
      have b1 : (wr.alloc (.cells #[.int .u64 (hi p.a), .int .u64 (lo p.a), .int .u64 (hi p.b), .int .u64 (lo p.b), .int .u64 (hi p.c), .int .u64 (lo p.c), .int .u64 (hi p.d), .int .u64 (lo p.d), .int .i64 v] 84)).cell? ⟨g2, k * 9 + 1, none⟩ = some (.int .u64 (lo p.a)) := (((Below.refl _ wr).alloc (Nat.le_refl _) _).cell (p := ⟨g2, k * 9 + 1, none⟩) L2).trans (h2 1 (by omega))
      have a2 : wr.cell? ⟨g1, k * 9 + 2, none⟩ = some (.int .u64 (hi p.b)) := h1 2 (by omega)
      have b2 : (wr.alloc (.cells #[.int .u64 (hi p.a), .int .u64 (lo p.a), .int .u64 (hi p.b), .int .u64 (lo p.b), .int .u64 (hi p.c), .int .u64 (lo p.c), .int .u64 (hi p.d), .int .u64 (lo p.d), .int .i64 v] 84)).cell? ⟨g2, k * 9 + 2, none⟩ = some (.int .u64 (hi p.b)) := (((Below.refl _ wr).alloc (Nat.le_refl _) _).cell (p := ⟨g2, k * 9 + 2, none⟩) L2).trans (h2 2 (by omega))
      have a3 : wr.cell? ⟨g1, k * 9 + 3, none⟩ = some (.int .u64 (lo p.b)) := h1 3 (by omega)
      have b3 : (wr.alloc (.cells #[.int .u64 (hi p.a), .int .u64 (lo p.a), .int .u64 (hi p.b), .int .u64 (lo p.b), .int .u64 (hi p.c), .int .u64 (lo p.c), .int .u64 (hi p.d), .int .u64 (lo p.d), .int .i64 v] 84)).cell? ⟨g2, k * 9 + 3, none⟩ = some (.int .u64 (lo p.b)) := (((Below.refl _ wr).alloc (Nat.le_refl _) _).cell (p := ⟨g2, k * 9 + 3, none⟩) L2).trans (h2 3 (by omega))
      have a4 : wr.cell? ⟨g1, k * 9 + 4, none⟩ = some (.int .u64 (hi p.c)) := h1 4 (by omega)
      have b4 : (wr.alloc (.cells #[.int .u64 (hi p.a), .int .u64 (lo p.a), .int .u64 (hi p.b), .int .u64 (lo p.b), .int .u64 (hi p.c), .int .u64 (lo p.c), .int .u64 (hi p.d), .int .u64 (lo p.d), .int .i64 v] 84)).cell? ⟨g2, k * 9 + 4, none⟩ = some (.int .u64 (hi p.c)) := (((Below.refl _ wr).alloc (Nat.le_refl _) _).cell (p := ⟨g2, k * 9 + 4, none⟩) L2).trans (h2 4 (by omega))
      have a5 : wr.cell? ⟨g1, k * 9 + 5, none⟩ = some (.int .u64 (lo p.c)) := h1 5 (by omega)
      have b5 : (wr.alloc (.cells #[.int .u64 (hi p.a), .int .u64 (lo p.a), .int .u64 (hi p.b), .int .u64 (lo p.b), .int .u64 (hi p.c), .int .u64 (lo p.c), .int .u64 (hi p.d), .int .u64 (lo p.d), .int .i64 v] 84)).cell? ⟨g2, k * 9 + 5, none⟩ = some (.int .u64 (lo p.c)) := (((Below.refl _ wr).alloc (Nat.le_refl _) _).cell (p := ⟨g2, k * 9 + 5, none⟩) L2).trans (h2 5 (by omega))
      have a6 : wr.cell? ⟨g1, k * 9 + 6, none⟩ = some (.int .u64 (hi p.d)) := h1 6 (by omega)
      have b6 : (wr.alloc (.cells #[.int .u64 (hi p.a), .int .u64 (lo p.a), .int .u64 (hi p.b), .int .u64 (lo p.b), .int .u64 (hi p.c), .int .u64 (lo p.c), .int .u64 (hi p.d), .int .u64 (lo p.d), .int .i64 v] 84)).cell? ⟨g2, k * 9 + 6, none⟩ = some (.int .u64 (hi p.d)) := (((Below.refl _ wr).alloc (Nat.le_refl _) _).cell (p := ⟨g2, k * 9 + 6, none⟩) L2).trans (h2 6 (by omega))
      have a7 : wr.cell? ⟨g1, k * 9 + 7, none⟩ = some (.int .u64 (lo p.d)) := h1 7 (by omega)
      have b7 : (wr.alloc (.cells #[.int .u64 (hi p.a), .int .u64 (lo p.a), .int .u64 (hi p.b), .int .u64 (lo p.b), .int .u64 (hi p.c), .int .u64 (lo p.c), .int .u64 (hi p.d), .int .u64 (lo p.d), .int .i64 v] 84)).cell? ⟨g2, k * 9 + 7, none⟩ = some (.int .u64 (lo p.d)) := (((Below.refl _ wr).alloc (Nat.le_refl _) _).cell (p := ⟨g2, k * 9 + 7, none⟩) L2).trans (h2 7 (by omega))
      have a8 : wr.cell? ⟨g1, k * 9 + 8, none⟩ = some (.int .i64 v) := h1 8 (by omega)
      have b8 : (wr.alloc (.cells #[.int .u64 (hi p.a), .int .u64 (lo p.a), .int .u64 (hi p.b), .int .u64 (lo p.b), .int .u64 (hi p.c), .int .u64 (lo p.c), .int .u64 (hi p.d), .int .u64 (lo p.d), .int .i64 v] 84)).cell? ⟨g2, k * 9 + 8, none⟩ = some (.int .i64 v) := (((Below.refl _ wr).alloc (Nat.le_refl _) _).cell (p := ⟨g2, k * 9 + 8, none⟩) L2).trans (h2 8 (by omega))
      have k1 : (k : Int) < (n : Int) := by omega
      have k3 : (k : Int) < (c1 : Int) := by omega
      have k4 : (k : Int) < (c2 : Int) := by omega
      have k0 : 0 ≤ (k : Int) := by omega
      clear h1 h2 hcell1 hcell2 hp
      go_wp2_with fail
      go_quiet (fail)
      go_wp2_with fail
      go_roundw
      case rel => exact ⟨k + 1, by omega, by simp, below_dnQ (HB.out.trans (((Below.refl _ wr).alloc (Nat.le_refl _) _).mono HB.out.size)) _⟩
      case measure => simp [intOf]; omega
    · obtain rfl : n = k := by omega
      go_wp2_with fail
      go_ret
      exact ⟨rfl, HB.out⟩
end Go.Proofs.Ytjdecoiciecfpaa
