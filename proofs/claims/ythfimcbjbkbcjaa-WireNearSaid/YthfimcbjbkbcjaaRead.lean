/- matchguardref01.Read: a value as an array of bits. -/
import Derived.Test.YthfimcbjbkbcjaaBits
import Derived.BigRegion
namespace Go.Proofs.Ythfimcbjbkbcjaa
open Go.RowKit

/-- What Read has done after k rounds. -/
structure ReadAt (w : World) (a k : Nat) (w' : World) : Prop where
  below : Below w.heap.size w w'
  size : w.heap.size + 3 ≤ w'.heap.size
  h0 : w'.cell? ⟨w.heap.size, 0, none⟩ = some (.int .u64 (hi a))
  h1 : w'.cell? ⟨w.heap.size, 1, none⟩ = some (.int .u64 (lo a))
  res : BitsAt w' (w.heap.size + 1) fun _ => false
  out : BitsAt w' (w.heap.size + 2) fun i => decide (i % 64 < k) && a.testBit i

theorem bit_word (n k : Nat) (hn : n < 18446744073709551616) : (bits .and .u64 ((n : Int) / 2 ^ k) 1 == 1) = n.testBit k := by
  rw [show ((2 : Int) ^ k) = ((2 ^ k : Nat) : Int) by simp, ← Int.natCast_ediv, show (1 : Int) = ((1 : Nat) : Int) from rfl,
    u64_and_nat _ _ (Nat.lt_of_le_of_lt (Nat.div_le_self _ _) hn) (by decide), Nat.and_one_is_mod, Bool.eq_iff_iff, Nat.testBit_eq_decide_div_mod_eq]
  simp only [beq_iff_eq, decide_eq_true_eq]
  omega
theorem bit_lo (a k : Nat) (hk : k < 64) : (bits .and .u64 (lo a / 2 ^ k) 1 == 1) = a.testBit k := by
  unfold lo
  rw [bit_word _ _ (by omega), p64, Nat.testBit_mod_two_pow]
  simp [hk]
theorem bit_hi (a k : Nat) (hk : k < 64) : (bits .and .u64 (hi a / 2 ^ k) 1 == 1) = a.testBit (k + 64) := by
  unfold hi
  rw [bit_word _ _ (by omega), p64, Nat.testBit_mod_two_pow, Nat.testBit_div_two_pow]
  simp [hk]
theorem read_step (a k i : Nat) (hk : k < 64) (hi : i < 128) :
    (decide (i % 64 < k + 1) && a.testBit i) = if i = k + 64 then a.testBit (k + 64) else if i = k then a.testBit k else (decide (i % 64 < k) && a.testBit i) := by
  by_cases h : i = k + 64
  · subst h
    have : (k + 64) % 64 < k + 1 := by omega
    rw [if_pos rfl, decide_eq_true this, Bool.true_and]
  · rw [if_neg h]
    by_cases h' : i = k
    · subst h'
      have : i % 64 < i + 1 := by omega
      simp [this]
    · rw [if_neg h']
      congr 1
      rw [decide_eq_decide]
      omega

set_option maxHeartbeats 1000000 in
theorem read_any (a : Nat) (w : World) :
    Calls Try.prog 69 #[.agg #[.int .u64 (hi a), .int .u64 (lo a)]] w (RetX (.agg (bitsA a.testBit)) w) := by
  go_enter Try.func69, Try.ntmps69
  go_wp2_with (simp only [zero_bits])
  go_loopw [4] (fun i w' => ∃ k : Nat, k ≤ 64 ∧ i = .int .i64 k ∧ ReadAt w a k w') (fun i _ => 64 - (intOf i).toNat)
  case atStart =>
    refine ⟨0, by omega, rfl, ((((Below.refl _ _).alloc (by simp) _).alloc (by simp) _).alloc (by simp; omega) _), by simp, by simp [go_sem], by simp [go_sem], ?_, ?_⟩
    · have h1 := BitsAt.new (w.alloc (.cells #[.int .u64 (hi a), .int .u64 (lo a)] 26)) (fun _ => false) 86
      simp only [World.size_alloc] at h1
      exact h1.past (by simp) _
    · have h1 := BitsAt.new ((w.alloc (.cells #[.int .u64 (hi a), .int .u64 (lo a)] 26)).alloc (.cells (bitsA fun _ => false) 86)) (fun _ => false) 86
      simp only [World.size_alloc] at h1
      exact BitsAt.congr (f := fun _ => false) h1 (fun i _ => by simp)
  case round =>
    obtain ⟨k, hk, rfl, hR⟩ := hrel
    by_cases hlt : (k : Int) < 64
    · have c0 := hR.h0
      have c1 := hR.h1
      have i0 : wr.cell? ⟨w.heap.size + 2, k, none⟩ = some _ := hR.out.cell k (by omega)
      have i1 : wr.cell? ⟨w.heap.size + 2, k + 64, none⟩ = some _ := hR.out.cell (k + 64) (by omega)
      have f0 : wr.frozen? ⟨w.heap.size + 2, k, none⟩ = false := hR.out.froz k (by omega)
      have f1 : wr.frozen? ⟨w.heap.size + 2, k + 64, none⟩ = false := hR.out.froz (k + 64) (by omega)
      go_wp2
      go_region
      go_wp2
      go_roundw
      case rel =>
        go_light
        have hk' : k < 64 := by omega
        rw [bit_lo a k hk', bit_hi a k hk']
        have hs := hR.size
        refine ⟨k + 1, by omega, by simp, ?_⟩
        refine ⟨((hR.below.setCell (by simp; omega) _).setCell (by simp; omega) _).drew, by simp [World.setCell, World.drew]; exact hs, ?_, ?_, ?_, ?_⟩
        · simp only [World.cell?_drew]
          rw [World.cell?_setCell_far _ _ _ _ (by simp; omega), World.cell?_setCell_far _ _ _ _ (by simp; omega)]; exact c0
        · simp only [World.cell?_drew]
          rw [World.cell?_setCell_far _ _ _ _ (by simp; omega), World.cell?_setCell_far _ _ _ _ (by simp; omega)]; exact c1
        · exact ((hR.res.far _ (by simp) _).far _ (by simp) _).drew
        · exact ((hR.out.put (g := fun i => if i = k then a.testBit k else (decide (i % 64 < k) && a.testBit i)) k (by omega) _ (fun i _ => rfl)).put (k + 64) (by omega) _ (fun i hi => read_step a k i hk' hi)).drew
      case measure => simp [intOf]; omega
    · have e : k = 64 := by omega
      subst e
      go_wp2_with (first | refine wpList_load_bits rfl rfl rfl hR.out ?_ | refine wpList_store_bits rfl rfl rfl rfl hR.res.there ?_)
      go_light
      have hB := BitsAt.stored hR.res.there fun i => decide (i % 64 < 64) && a.testBit i
      have e : (bitsA fun i => decide (i % 64 < 64) && a.testBit i) = bitsA a.testBit := bitsA_congr fun i _ => by
        have : i % 64 < 64 := by omega
        simp [this]
      refine bodyPost_ret (v := .agg (bitsA a.testBit)) (by rw [← e]; exact results_bits rfl rfl hB) rfl ⟨rfl, ?_⟩
      exact Below.setCells hR.below (by omega) _ _
end Go.Proofs.Ythfimcbjbkbcjaa
