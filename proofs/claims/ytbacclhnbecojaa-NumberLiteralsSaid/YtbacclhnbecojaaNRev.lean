/- slices.Reverse of bytes that the call itself made. -/
import Derived.Test.YtbacclhnbecojaaNVal
import Derived.Laws.OwnMore
import Derived.BigRegion
namespace Go.Proofs.Ytbacclhnbecojaa
open Go.RowKit

theorem grown_trans {w1 w2 w3 : World} {r : Option Nat} (h : w1.grownBy w2 r) (h2 : w2.grownBy w3 r) : w1.grownBy w3 r :=
  ⟨h2.os.trans h.os, h2.tape.trans h.tape, h2.output.trans h.output, Nat.le_trans h.size h2.size, fun k hk hr => (h2.block k (Nat.lt_of_lt_of_le hk h.size) hr).trans (h.block k hk hr)⟩
theorem grown_drew (w : World) (r : Option Nat) : w.grownBy w.drew r := ⟨rfl, rfl, rfl, Nat.le_refl _, fun _ _ _ => rfl⟩
/-- the outer k elements on both sides have changed places -/
def Turned (k : Nat) (xs ys : List Value) : Prop := ys.length = xs.length ∧ ∀ j, j < xs.length → ys[j]? = if j < k ∨ xs.length ≤ j + k then xs[xs.length - 1 - j]? else xs[j]?
theorem Turned.start (xs : List Value) : Turned 0 xs xs := ⟨rfl, fun j hj => by rw [if_neg (by omega)]⟩
theorem Turned.next {k m : Nat} {xs ys : List Value} (h : Turned k xs ys) (hm : k + m + 1 = xs.length) (hk : k < m) (a b : Value) (ha : ys[k]? = some a) (hb : ys[m]? = some b) :
    Turned (k + 1) xs ((ys.set k b).set m a) := by
  have h1 := h.2 k (by omega)
  have h2 := h.2 m (by omega)
  rw [ha, if_neg (by omega)] at h1
  rw [hb, if_neg (by omega)] at h2
  refine ⟨by simpa using h.1, fun j hj => ?_⟩
  have hl := h.1
  have h3 := h.2 j hj
  rw [List.getElem?_set, List.getElem?_set, List.length_set]
  by_cases e1 : m = j
  · subst e1
    rw [if_pos rfl, if_pos (by omega), if_pos (by omega), show xs.length - 1 - m = k by omega, ← h1]
  · by_cases e2 : k = j
    · subst e2
      rw [if_neg e1, if_pos rfl, if_pos (by omega), if_pos (by omega), show xs.length - 1 - k = m by omega, ← h2]
    · rw [if_neg e1, if_neg e2, h3]
      by_cases e3 : j < k ∨ xs.length ≤ j + k
      · rw [if_pos e3, if_pos (by omega)]
      · rw [if_neg e3, if_neg (by omega)]
theorem Turned.done {k m : Nat} {xs ys : List Value} (h : Turned k xs ys) (hm : k + m + 1 = xs.length) (hk : m ≤ k) : ys = xs.reverse := by
  apply List.ext_getElem?
  intro j
  by_cases hj : j < xs.length
  · rw [h.2 j hj, List.getElem?_reverse hj]
    by_cases e3 : j < k ∨ xs.length ≤ j + k
    · rw [if_pos e3]
    · rw [if_neg e3]; congr 1; omega
  · rw [List.getElem?_eq_none (by rw [h.1]; omega), List.getElem?_eq_none (by simp; omega)]
theorem Turned.byte {k j : Nat} {xs ys : List Value} (h : Turned k xs ys) (hx : ∀ j, j < xs.length → ∃ x : Int, xs[j]? = some (.int .u8 x)) (hj : j < xs.length) : ∃ x : Int, ys[j]? = some (.int .u8 x) := by
  rw [h.2 j hj]
  split
  · exact hx _ (by omega)
  · exact hx _ hj
theorem two_addr {g j k : Nat} (h : j ≠ k) : (⟨g, j, none⟩ : Addr) ≠ ⟨g, k, none⟩ := fun e => h (by injection e)
/-- Reverse's end: the row stands the other way round, nothing else has changed. -/
def RetRev (base g cap n : Nat) (xs : List Value) (w : World) (e : Ending) (w' : World) : Prop :=
  e = .returned (.tuple #[]) ∧ w'.ownsRow base 5 1 (.slice (some ⟨g, 0, none⟩) n cap) n xs.reverse ∧ w.grownBy w' (some g)
set_option maxRecDepth 100000 in
set_option maxHeartbeats 2000000 in
theorem nn_rev (base g cap n : Nat) (xs : List Value) (hn : 0 < n) (hm : n ≤ 1000) (hx : ∀ j, j < xs.length → ∃ x : Int, xs[j]? = some (.int .u8 x)) (w : World) (h : w.ownsRow base 5 1 (.slice (some ⟨g, 0, none⟩) n cap) n xs) :
    Calls Try.prog 30 #[.slice (some ⟨g, 0, none⟩) n cap] w (RetRev base g cap n xs w) := by
  have hlen : xs.length = n := by have := h.1; omega
  have HL := Lib.hid hlen
  have HX := Lib.hid hx
  clear hlen hx
  obtain ⟨m0, hm0⟩ : ∃ m : Nat, m + 1 = n := ⟨n - 1, by omega⟩
  subst hm0
  have em : ((m0 + 1 : Nat) : Int) - 1 = m0 := by omega
  have e1 : ((m0 + 1 : Nat) : Int) = (m0 : Int) + 1 := by omega
  go_enter Try.func30, Try.ntmps30
  go_wp2
  go_loopw [2, 3] (fun i j w' => ∃ k m : Nat, k + m + 1 = m0 + 1 ∧ k ≤ m + 1 ∧ i = .int .i64 k ∧ j = .int .i64 m ∧ w.grownBy w' (some g) ∧ ∃ ys, Turned k xs ys ∧ w'.ownsRow base 5 1 (.slice (some ⟨g, 0, none⟩) (m0 + 1) cap) (m0 + 1) ys) (fun _ j _ => (intOf j).toNat)
  case atStart => exact ⟨0, m0, by omega, by omega, rfl, by simp, ⟨rfl, rfl, rfl, Nat.le_refl _, fun _ _ _ => rfl⟩, xs, Turned.start xs, h⟩
  case round =>
    obtain ⟨k, m, hkm, hle, rfl, rfl, hg, ys, hT, hO⟩ := hrel
    have HG := Lib.hid hg
    have HT := Lib.hid hT
    have HO := Lib.hid hO
    by_cases hlt : (k : Int) < (m : Int)
    · obtain ⟨m1, rfl⟩ : ∃ m1, m = m1 + 1 := ⟨m - 1, by omega⟩
      have hl2 : ys.length = m0 + 1 := by rw [hT.1, HL.out]
      obtain ⟨a, ha⟩ := hT.byte HX.out (show k < xs.length by rw [HL.out]; omega)
      obtain ⟨b, hb⟩ := hT.byte HX.out (show m1 + 1 < xs.length by rw [HL.out]; omega)
      have i0 : wr.cell? ⟨g, k, none⟩ = some (.int .u8 a) := by rw [hO.cellAt k (by omega)]; exact ha
      have i1 : wr.cell? ⟨g, m1 + 1, none⟩ = some (.int .u8 b) := by rw [hO.cellAt (m1 + 1) (by omega)]; exact hb
      have f0 : wr.frozen? ⟨g, k, none⟩ = false := hO.frozenAt k
      have f1 : wr.frozen? ⟨g, m1 + 1, none⟩ = false := hO.frozenAt (m1 + 1)
      have j0 : (wr.drew.setCell ⟨g, k, none⟩ (.int .u8 b)).cell? ⟨g, m1 + 1, none⟩ = some (.int .u8 b) := by rw [World.cell?_setCell_other _ _ _ _ (two_addr (by omega))]; exact i1
      have j1 : (wr.drew.setCell ⟨g, m1 + 1, none⟩ (.int .u8 a)).cell? ⟨g, k, none⟩ = some (.int .u8 a) := by rw [World.cell?_setCell_other _ _ _ _ (two_addr (by omega))]; exact i0
      have HA := Lib.hid ha
      have HB := Lib.hid hb
      have k0 : (k : Int) < (m0 : Int) + 1 := by omega
      have k1 : (m1 : Int) + 1 < (m0 : Int) + 1 := by omega
      have em1 : ((m1 + 1 : Nat) : Int) = (m1 : Int) + 1 := by omega
      have p0 : (0 : Int) ≤ (m1 : Int) + 1 := by omega
      have em2 : ((m1 : Int) + 1).toNat = m1 + 1 := by omega
      have em3 : (m1 : Int) + 1 - 1 = (m1 : Int) := by omega
      rw [em1] at hlt ⊢
      have HK := Lib.hid hkm
      clear ha hb hT hO hg hkm em1
      go_wp2
      go_region
      go_wp2
      go_roundw
      case rel =>
        go_light
        have hkm := HK.out
        clear em2
        have s1 := HO.out.stored k (.int .u8 b)
        have s2 := s1.1.stored (m1 + 1) (.int .u8 a)
        exact ⟨k + 1, m1, by omega, by omega, by simp, rfl, grown_trans (grown_trans (grown_trans HG.out s1.2) s2.2) (grown_drew _ _), _, HT.out.next (by rw [HL.out]; omega) (by omega) _ _ HA.out HB.out, s2.1.drew⟩
      case measure => simp [intOf]
    · have hk : m ≤ k := by omega
      have e := HT.out.done (by rw [HL.out]; exact hkm) hk
      have HE := Lib.hid e
      clear e hT hO
      go_wp2
      go_end0
      refine ⟨rfl, ?_, HG.out⟩
      rw [← HE.out]
      exact HO.out
end Go.Proofs.Ytbacclhnbecojaa
