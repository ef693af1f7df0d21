/- matchguardcase: Pieces. -/
import Derived.Test.YtmdifoclojogpaaGreatDoorSCodes
import Derived.Test.YtmdifoclojogpaaGreatDoorJLScan
namespace Go.Proofs.YtmdifoclojogpaaGreatDoor
open Go.RowKit

def pcL : List ByteArray := [⟨#[97]⟩, ⟨#[98]⟩, ⟨#[100]⟩, ⟨#[101, 58, 58, 109, 97, 115, 107]⟩, ⟨#[112, 114, 105, 111, 114, 105, 116, 121]⟩, ⟨#[116, 114, 117, 101]⟩, ⟨#[48]⟩, ⟨#[49, 55]⟩, ⟨#[48, 120, 49, 102]⟩, ⟨#[48, 120, 103]⟩, ⟨#[57, 97]⟩, ⟨#[95, 97]⟩, ⟨#[38]⟩, ⟨#[40]⟩, ⟨#[41]⟩, ⟨#[33]⟩, ⟨#[38, 38]⟩, ⟨#[124, 124]⟩, ⟨#[45, 62]⟩, ⟨#[61, 61]⟩, ⟨#[33, 61]⟩, ⟨#[60]⟩, ⟨#[60, 61]⟩, ⟨#[62]⟩, ⟨#[62, 61]⟩, ⟨#[43]⟩, ⟨#[45]⟩, ⟨#[58, 58]⟩, ⟨#[32]⟩, ⟨#[32, 32]⟩, ⟨#[120, 49, 95, 121]⟩, ⟨#[58]⟩]
def pcK (i : Nat) : ByteArray := pcL.getD i ⟨#[]⟩
def pcA : Array Value := #[.string ⟨#[97]⟩, .string ⟨#[98]⟩, .string ⟨#[100]⟩, .string ⟨#[101, 58, 58, 109, 97, 115, 107]⟩, .string ⟨#[112, 114, 105, 111, 114, 105, 116, 121]⟩, .string ⟨#[116, 114, 117, 101]⟩, .string ⟨#[48]⟩, .string ⟨#[49, 55]⟩, .string ⟨#[48, 120, 49, 102]⟩, .string ⟨#[48, 120, 103]⟩, .string ⟨#[57, 97]⟩, .string ⟨#[95, 97]⟩, .string ⟨#[38]⟩, .string ⟨#[40]⟩, .string ⟨#[41]⟩, .string ⟨#[33]⟩, .string ⟨#[38, 38]⟩, .string ⟨#[124, 124]⟩, .string ⟨#[45, 62]⟩, .string ⟨#[61, 61]⟩, .string ⟨#[33, 61]⟩, .string ⟨#[60]⟩, .string ⟨#[60, 61]⟩, .string ⟨#[62]⟩, .string ⟨#[62, 61]⟩, .string ⟨#[43]⟩, .string ⟨#[45]⟩, .string ⟨#[58, 58]⟩, .string ⟨#[32]⟩, .string ⟨#[32, 32]⟩, .string ⟨#[120, 49, 95, 121]⟩, .string ⟨#[58]⟩]
theorem pcA_lit : pcA = #[.string ⟨#[97]⟩, .string ⟨#[98]⟩, .string ⟨#[100]⟩, .string ⟨#[101, 58, 58, 109, 97, 115, 107]⟩, .string ⟨#[112, 114, 105, 111, 114, 105, 116, 121]⟩, .string ⟨#[116, 114, 117, 101]⟩, .string ⟨#[48]⟩, .string ⟨#[49, 55]⟩, .string ⟨#[48, 120, 49, 102]⟩, .string ⟨#[48, 120, 103]⟩, .string ⟨#[57, 97]⟩, .string ⟨#[95, 97]⟩, .string ⟨#[38]⟩, .string ⟨#[40]⟩, .string ⟨#[41]⟩, .string ⟨#[33]⟩, .string ⟨#[38, 38]⟩, .string ⟨#[124, 124]⟩, .string ⟨#[45, 62]⟩, .string ⟨#[61, 61]⟩, .string ⟨#[33, 61]⟩, .string ⟨#[60]⟩, .string ⟨#[60, 61]⟩, .string ⟨#[62]⟩, .string ⟨#[62, 61]⟩, .string ⟨#[43]⟩, .string ⟨#[45]⟩, .string ⟨#[58, 58]⟩, .string ⟨#[32]⟩, .string ⟨#[32, 32]⟩, .string ⟨#[120, 49, 95, 121]⟩, .string ⟨#[58]⟩] := rfl
theorem pc_at : ∀ i, i < 32 → pcA[i]? = some (.string (pcK i)) := by
  intro i hi
  have h : i = 0 ∨ i = 1 ∨ i = 2 ∨ i = 3 ∨ i = 4 ∨ i = 5 ∨ i = 6 ∨ i = 7 ∨ i = 8 ∨ i = 9 ∨ i = 10 ∨ i = 11 ∨ i = 12 ∨ i = 13 ∨ i = 14 ∨ i = 15 ∨ i = 16 ∨ i = 17 ∨ i = 18 ∨ i = 19 ∨ i = 20 ∨ i = 21 ∨ i = 22 ∨ i = 23 ∨ i = 24 ∨ i = 25 ∨ i = 26 ∨ i = 27 ∨ i = 28 ∨ i = 29 ∨ i = 30 ∨ i = 31 := by omega
  rcases h with rfl | rfl | rfl | rfl | rfl | rfl | rfl | rfl | rfl | rfl | rfl | rfl | rfl | rfl | rfl | rfl | rfl | rfl | rfl | rfl | rfl | rfl | rfl | rfl | rfl | rfl | rfl | rfl | rfl | rfl | rfl | rfl <;> rfl
theorem pc_size : ∀ i, i < 32 → 1 ≤ (pcK i).size ∧ (pcK i).size ≤ 8 := by decide
def strS : Value → Nat
  | .string s => s.size
  | _ => 0
theorem size_drewN (w : World) (n : Nat) : (w.drewN n).heap.size = w.heap.size := by
  induction n with
  | zero => rfl
  | succ n ih => exact ih
theorem below_drewN {B : Nat} {w w' : World} (h : Below B w w') (n : Nat) : Below B w (w'.drewN n) := by
  induction n with
  | zero => exact h
  | succ n ih => exact ih.drew
/-- what Pieces hands back -/
def RetPc (B : Nat) (w : World) (e : Ending) (w' : World) : Prop := ∃ s : ByteArray, s.size ≤ 320 ∧ e = .returned (.string s) ∧ Below B w w'
set_option maxRecDepth 100000 in
set_option maxHeartbeats 4000000 in
theorem cs_pieces {K D p : Nat} {l : List Nat} (w : World) (B : Nat) (hB : B ≤ K) (h : CoAt K D l p w) :
    Calls Tryz.prog 26 #[.pointer (some ⟨K, 0, none⟩)] w (RetPc B w) := by
  have HB0 : Hid (B ≤ w.heap.size) := Lib.hid (by have := h.lt; omega)
  have HH := Lib.hid h
  clear h
  go_enter Tryz.func26, Tryz.ntmps26
  go_wp2
  go_loopw [3] (fun v w' => ∃ (s : ByteArray) (q : Nat), s.size ≤ 310 ∧ v = .string s ∧ Below B w w' ∧ CoAt K D l q w') (fun v _ => 311 - strS v)
  case atStart => exact ⟨⟨#[]⟩, p, by decide, rfl, Below.refl _ _, HH.out⟩
  case round =>
    clear HH
    obtain ⟨s, q, hs, rfl, hb, hc⟩ := hrel
    have HBB := Lib.hid hb
    have HC := Lib.hid hc
    have hsz : B ≤ wr.heap.size := Nat.le_trans HB0.out hb.size
    obtain ⟨b, hbl⟩ : ∃ b, decide (q < l.length) = b := ⟨_, rfl⟩
    have KL : Hid (Calls Tryz.prog 57 #[.pointer (some ⟨K, 0, none⟩)] wr fun e w' => e = .returned (.bool b) ∧ ∃ n, w' = wr.drewN n) := Lib.hid (by rw [← hbl]; exact coleft_any hc)
    clear hb hc hbl
    by_cases hgo : b = true ∧ s.size < 300
    · obtain ⟨rfl, h3⟩ := hgo
      have h3I : (s.size : Int) < 300 := by omega
      go_wp2_with fail
      go_at_call 57
      refine KL.out.mono ?_
      rintro e w1 ⟨rfl, n1, rfl⟩
      have HC1 := Lib.hid (HC.out.drewN (n := n1))
      have HB1 : Hid (Below B w (wr.drewN n1)) := Lib.hid (below_drewN HBB.out n1)
      have hs1 : B ≤ (wr.drewN n1).heap.size := by rw [size_drewN]; exact hsz
      generalize wr.drewN n1 = W1 at HC1 HB1 hs1 ⊢
      clear HBB HC KL hsz
      go_wp2_with fail
      rw [← pcA_lit]
      have al : Below B W1 (W1.alloc (.cells pcA 9)) := (Below.refl _ _).alloc hs1 _
      have HC2 := Lib.hid (HC1.out.kept (World.grownBy_alloc W1 (.cells pcA 9) none) (by simp) (fun _ => by simp))
      have hkn : K ≠ W1.heap.size := by have := HC1.out.lt; omega
      go_at_call 33
      refine (next_any 32 (by decide) (by decide) HC2.out).mono ?_
      rintro e w3 ⟨v, hv, rfl, hg3, q3, hc3⟩
      have HC3 := Lib.hid hc3
      have HB3 := Lib.hid ((HB1.out.trans al).grown hg3 (by simp; omega) (fun k hk => by injection hk with hk; omega))
      have hs3 : B ≤ w3.heap.size := by have := hg3.size; simp at this; omega
      obtain ⟨x, hx⟩ : ∃ x, pcK v = x := ⟨_, rfl⟩
      have hcell : w3.cell? ⟨W1.heap.size, v, none⟩ = some (.string x) := by
        rw [cell_kept hg3 (by simp) (by intro h; injection h with h; exact hkn h.symm), World.cell?_alloc_new, ← hx]
        exact pc_at v hv
      have hxs : 1 ≤ x.size ∧ x.size ≤ 8 := by rw [← hx]; exact pc_size v hv
      have hvI : (v : Int) < 32 := by omega
      have hcat : ¬ 9223372036854775807 < s.size + x.size := by omega
      clear hx hg3 hc3 al HC1 HC2 HB1
      go_wp2_with fail
      go_at_call 33
      refine (next_any 3 (by decide) (by decide) HC3.out).mono ?_
      rintro e w4 ⟨v4, hv4, rfl, hg4, q4, hc4⟩
      have HC4 := Lib.hid hc4
      have HB4 := Lib.hid (HB3.out.grown hg4 hs3 (fun k hk => by injection hk with hk; omega))
      clear hg4 hc4 hcell HC3 HB3
      obtain ⟨y, hy⟩ : ∃ y, s ++ x = y := ⟨_, rfl⟩
      have hys : y.size = s.size + x.size := by rw [← hy, ByteArray.size_append]
      rw [hy]
      clear hy hcat
      by_cases h0 : v4 = 0
      · subst h0
        have hcat2 : ¬ 9223372036854775807 < y.size + 1 := by omega
        have hy1 : (y ++ (⟨#[32]⟩ : ByteArray)).size = y.size + 1 := by rw [ByteArray.size_append]; rfl
        have HY1 := Lib.hid hy1
        have HYS := Lib.hid hys
        clear hy1 hys
        go_wp2
        go_roundw
        case rel => (go_light; exact ⟨_, q4, by rw [HY1.out, HYS.out]; omega, rfl, HB4.out, HC4.out⟩)
        case measure => simp [strS, HY1.out, HYS.out]; omega
      · have h0I : ((v4 : Int) == 0) = false := by rw [beq_eq_false_iff_ne]; omega
        go_wp2
        go_roundw
        case rel => (go_light; exact ⟨y, q4, by omega, rfl, HB4.out, HC4.out⟩)
        case measure => simp [strS]; omega
    · have hs320 : s.size ≤ 320 := by omega
      have hfin : ∀ n, Below B w (wr.drewN n) := fun n => below_drewN HBB.out n
      have HF := Lib.hid hfin
      clear hfin
      cases b
      · go_wp2_with (go_at_call 57; refine KL.out.mono ?_; rintro e w1 ⟨rfl, n1, rfl⟩)
        go_ret
        exact ⟨s, hs320, rfl, HF.out _⟩
      · have h3 : ¬ s.size < 300 := fun h => hgo ⟨rfl, h⟩
        have h3I : ¬ (s.size : Int) < 300 := by omega
        go_wp2_with (go_at_call 57; refine KL.out.mono ?_; rintro e w1 ⟨rfl, n1, rfl⟩)
        go_ret
        exact ⟨s, hs320, rfl, HF.out _⟩
end Go.Proofs.YtmdifoclojogpaaGreatDoor
