/- Contracts, joined: GBeat, GWin. -/
import Derived.Test.YthldelnibgdnaaaGPre
namespace Go.Proofs.Ythldelnibgdnaaa
section
open Go.RowKit

def sgI (a b : Int) : Int := if a < b then -1 else if b < a then 1 else 0
def fstNZ : List Int → Int
  | [] => 0
  | x :: r => if x = 0 then fstNZ r else x
def lpmI (ks : List KeyD) : Int := ixI 2 (ks.map (·.kind)) 0
set_option maxRecDepth 100000 in
theorem g_nan (a : Int) (w : World) : Calls Try.prog 44 #[.int .i64 a] w fun e w' => e = .returned (.bool false) ∧ w' = w := by
  go_enter Try.func44, Try.ntmps44
  go_wp2
  go_ret
  exact ⟨by simp, rfl⟩
set_option maxRecDepth 100000 in
set_option maxHeartbeats 2000000 in
theorem g_cmp (a b : Int) (w : World) : Calls Try.prog 28 #[.int .i64 a, .int .i64 b] w fun e w' => e = .returned (.int .i64 (sgI a b)) ∧ w' = w := by
  unfold sgI
  by_cases h1 : a < b
  · rw [if_pos h1]
    go_enter Try.func28, Try.ntmps28
    go_wp2_with (go_at_call 44; refine (g_nan _ _).mono ?_; rintro e w' ⟨rfl, rfl⟩)
    go_ret
    exact ⟨rfl, rfl⟩
  · rw [if_neg h1]
    by_cases h2 : b < a
    · rw [if_pos h2]
      go_enter Try.func28, Try.ntmps28
      go_wp2_with (go_at_call 44; refine (g_nan _ _).mono ?_; rintro e w' ⟨rfl, rfl⟩)
      go_ret
      exact ⟨rfl, rfl⟩
    · rw [if_neg h2]
      go_enter Try.func28, Try.ntmps28
      go_wp2_with (go_at_call 44; refine (g_nan _ _).mono ?_; rintro e w' ⟨rfl, rfl⟩)
      go_ret
      exact ⟨rfl, rfl⟩
set_option maxRecDepth 100000 in
set_option maxHeartbeats 2000000 in
theorem g_firstOf (w : World) (L n c : Nat) (xs : List Int) (hn : xs.length = n) (hc : n ≤ c) (hm : n ≤ 1000) (h : ∀ j x, xs[j]? = some x → w.cell? ⟨L, j, none⟩ = some (.int .i64 x)) :
    Calls Try.prog 27 #[.slice (some ⟨L, 0, none⟩) n c] w fun e w' => e = .returned (.int .i64 (fstNZ xs)) ∧ Below w.heap.size w w' := by
  have HN := Lib.hid hn
  have HC := Lib.hid h
  obtain ⟨r, hr⟩ : ∃ r, r = fstNZ xs := ⟨_, rfl⟩
  rw [← hr]
  have HRR := Lib.hid hr
  clear hn h hr
  go_enter Try.func27, Try.ntmps27
  go_wp2_with fail
  go_loopw [7] (fun i w' => ∃ k : Nat, k ≤ n ∧ i = .int .i64 k ∧ w' = w ∧ Hid (r = fstNZ (xs.drop k))) (fun i _ => n - (intOf i).toNat)
  case atStart => exact ⟨0, by omega, rfl, rfl, HRR⟩
  case round =>
    obtain ⟨k, hk, rfl, rfl, hx⟩ := hrel
    by_cases hlt : k < n
    · have hkI : (k : Int) < (n : Int) := by omega
      have hkc : (k : Int) < (c : Int) := by omega
      have hk0 : 0 ≤ (k : Int) := by omega
      obtain ⟨x, hxk⟩ : ∃ x, xs[k]? = some x := ⟨_, List.getElem?_eq_getElem (by rw [HN.out]; exact hlt)⟩
      have cx := HC.out k x hxk
      have hdr : xs.drop k = x :: xs.drop (k + 1) := by
        rw [List.drop_eq_getElem_cons (by rw [HN.out]; exact hlt), (List.getElem?_eq_some_iff.1 hxk).2]
      have hx2 := hx.out
      rw [hdr, fstNZ] at hx2
      clear hx hxk hdr
      by_cases h0 : x = 0
      · rw [if_pos h0] at hx2
        have HX := Lib.hid hx2
        clear hx2
        go_wp2_with fail
        go_roundw
        case rel => (go_light; exact ⟨k + 1, by omega, by simp, by first | exact rfl | exact trivial, HX⟩)
        case measure => simp [intOf]; omega
      · rw [if_neg h0] at hx2
        subst hx2
        go_wp2_with fail
        go_ret
        exact ⟨rfl, Below.refl _ _⟩
    · have hkI : ¬ (k : Int) < (n : Int) := by omega
      have hval : r = 0 := by rw [hx.out, List.drop_of_length_le (by rw [HN.out]; omega)]; rfl
      subst hval
      clear hx
      go_wp2_with fail
      go_ret
      exact ⟨rfl, Below.refl _ _⟩
end
section
open Go.RowKit

/-- Who wins, by priority, prefix and number. -/
def beatsE (ts : List TableD) (a b : EntryD) (na nb : Int) : Bool := if a.prio = b.prio then (if preE ts a = preE ts b then decide (nb < na) else decide (preE ts b < preE ts a)) else decide (b.prio < a.prio)
theorem beats_fst (ts : List TableD) (a b : EntryD) (na nb : Int) : beatsE ts a b na nb = decide (0 < fstNZ [sgI a.prio b.prio, sgI (preE ts a) (preE ts b), sgI na nb]) := by
  unfold beatsE
  simp only [fstNZ]
  generalize preE ts a = x
  generalize preE ts b = y
  generalize a.prio = x1
  generalize b.prio = y1
  unfold sgI
  rcases Int.lt_trichotomy x1 y1 with h | h | h <;> rcases Int.lt_trichotomy x y with h2 | h2 | h2 <;> rcases Int.lt_trichotomy na nb with h3 | h3 | h3 <;>
    simp [h, h2, h3, Int.lt_irrefl, Int.ne_of_lt, Int.ne_of_gt, Int.lt_asymm] <;> (try simp only [Int.lt_asymm h, if_false]) <;> (try omega) <;> simp_all <;> omega
theorem below_alloc {W0 W : World} (h : Below W0.heap.size W0 W) (o : Obj) : Below W0.heap.size W0 (W.alloc o) := h.alloc h.size _
theorem below_call {W0 W W' : World} (h : Below W0.heap.size W0 W) (h2 : Below W.heap.size W W') : Below W0.heap.size W0 W' := h.trans (h2.mono h.size)
end
end Go.Proofs.Ythldelnibgdnaaa
