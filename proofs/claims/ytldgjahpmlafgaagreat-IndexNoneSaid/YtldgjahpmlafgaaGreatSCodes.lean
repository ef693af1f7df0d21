/- The choices that schemas are made of. -/
import Derived.Test.YtldgjahpmlafgaaGreatJRead
import Derived.Deep.QuietTactic
import Derived.BigQuiet
import Derived.IntWalk
namespace Go.Proofs.YtldgjahpmlafgaaGreat
open Go.RowKit

/-- The choices in block K: the bytes l in block D, of which p are used. -/
structure CoAt (K D : Nat) (l : List Nat) (p : Nat) (w : World) : Prop where
  c0 : ∃ A cap, w.cell? ⟨K, 0, none⟩ = some (.slice A l.length cap)  ∧ l.length ≤ cap ∧ ReadsL w D A l
  c1 : w.cell? ⟨K, 1, none⟩ = some (.int .i64 p)
  f1 : w.frozen? ⟨K, 1, none⟩ = false
  lt : K < w.heap.size
  dlt : l ≠ [] → D < w.heap.size
  dk : l ≠ [] → D ≠ K
  le : p ≤ l.length
  len : l.length ≤ 120
  small : Small l
theorem ReadsL.kept' {w w' : World} {D : Nat} {A : Option Addr} {l : List Nat} {row : Option Nat} (h : ReadsL w D A l) (hg : w.grownBy w' row) (hD : l ≠ [] → row ≠ some D) : ReadsL w' D A l := by
  by_cases h0 : l = []
  · exact .inl h0
  · exact h.kept hg (hD h0)
theorem CoAt.kept {K D p : Nat} {l : List Nat} {w w' : World} {row : Option Nat} (h : CoAt K D l p w) (hg : w.grownBy w' row) (hK : row ≠ some K) (hD : l ≠ [] → row ≠ some D) : CoAt K D l p w' := by
  obtain ⟨A, cap, h1, h2, h3⟩ := h.c0
  exact ⟨⟨A, cap, (cell_kept hg h.lt (Ne.symm hK)).trans h1, h2, h3.kept' hg hD⟩, (cell_kept hg h.lt (Ne.symm hK)).trans h.c1, (frozen_kept hg h.lt (Ne.symm hK)).trans h.f1, Nat.lt_of_lt_of_le h.lt hg.size, fun e => Nat.lt_of_lt_of_le (h.dlt e) hg.size, h.dk, h.le, h.len, h.small⟩
/-- The call returns a number below n, and only the choices have changed. -/
def ChoseZ (K D : Nat) (l : List Nat) (n : Nat) (w : World) (e : Ending) (w' : World) : Prop := ∃ v : Nat, v < n ∧ (l = [] → v = 0) ∧ e = .returned (.int .i64 v) ∧ w.grownBy w' (some K) ∧ ∃ p, CoAt K D l p w'
def Chose (K D : Nat) (l : List Nat) (n : Nat) (w : World) (e : Ending) (w' : World) : Prop := ∃ v : Nat, v < n ∧ e = .returned (.int .i64 v) ∧ w.grownBy w' (some K) ∧ ∃ p, CoAt K D l p w'
set_option maxRecDepth 100000 in
theorem coleft_any {K D p : Nat} {l : List Nat} {w : World} (h : CoAt K D l p w) : Calls Tryz.prog 27 #[.pointer (some ⟨K, 0, none⟩)] w fun e w' => e = .returned (.bool (decide (p < l.length))) ∧ ∃ n, w' = w.drewN n := by
  obtain ⟨A, cap, h0, h2, h3⟩ := h.c0
  have c1 := h.c1
  have hle := h.len
  have hp := h.le
  clear h h3
  by_cases hlt : p < l.length
  · have hd : decide (p < l.length) = true := by simpa using hlt
    rw [hd]
    have hlt' : (p : Int) < (l.length : Int) := by omega
    generalize l.length = n at *
    clear hd
    go_enter Tryz.func27, Tryz.ntmps27
    go_wp2
    go_quiet (fail)
    go_wp2
    go_ret
    exact ⟨by simp, _, rfl⟩
  · have hd : decide (p < l.length) = false := by simpa using hlt
    rw [hd]
    have hlt' : ¬ (p : Int) < (l.length : Int) := by omega
    generalize l.length = n at *
    clear hd
    go_enter Tryz.func27, Tryz.ntmps27
    go_wp2
    go_quiet (fail)
    go_wp2
    go_ret
    exact ⟨by simp, _, rfl⟩
theorem CoAt.drewN {K D p n : Nat} {l : List Nat} {w : World} (h : CoAt K D l p w) : CoAt K D l p (w.drewN n) := h.kept (row := none) (w' := w.drewN n) ⟨rfl, rfl, rfl, Nat.le_refl _, fun _ _ _ => rfl⟩ (by simp) (by simp)
set_option maxRecDepth 100000 in
set_option maxHeartbeats 1000000 in
theorem next_z {K D p : Nat} {l : List Nat} {w : World} (n : Nat) (hn : 1 ≤ n) (hn2 : n ≤ 1000000) (h : CoAt K D l p w) : Calls Tryz.prog 30 #[.pointer (some ⟨K, 0, none⟩), .int .i64 n] w (ChoseZ K D l n w) := by
  have HL := Lib.hid (coleft_any h)
  have HH := Lib.hid h
  have hle := h.len
  by_cases hlt : p < l.length
  · obtain ⟨A, cap, h0, h2, h3⟩ := h.c0
    obtain ⟨o, rfl, hD, hc⟩ := h3.resolve_left (fun e => by rw [e] at hlt; simp at hlt)
    have hx := hc p hlt
    have hx2 := h.small.getD p
    have hne : l ≠ [] := fun e => by rw [e] at hlt; simp at hlt
    have hDK := h.dk hne
    have hKD : K ≠ D := Ne.symm hDK
    have c1 := h.c1
    have f1 := h.f1
    have hd : decide (p < l.length) = true := by simpa using hlt
    rw [hd] at HL
    have hlt' : (p : Int) < (l.length : Int) := by omega
    have HX : Hid (l.getD p 0 = l.getD p 0) := Lib.hid rfl
    generalize hy : l.getD p 0 = y at hx hx2
    have hnn : ¬ (n : Int) < 1 := by omega
    have hn0 : (n : Int) ≠ 0 := by omega
    clear hy hd hc h HX
    go_enter Tryz.func30, Tryz.ntmps30
    go_wp2_with (go_at_call 27; (refine HL.out.mono ?_; rintro e w' ⟨rfl, a, rfl⟩))
    have hg := grown_set (w.drewN a) K 1 (.int .i64 ((p : Int) + 1))
    generalize hW : World.setCell _ _ _ = W1 at *
    have hlk := HH.out.lt
    have z0 : W1.cell? ⟨K, 0, none⟩ = some (.slice (some ⟨D, o, none⟩) l.length cap) := by rw [← hW, set_other _ _ _ _ _ (by decide)]; exact h0
    have z1 : W1.cell? ⟨K, 1, none⟩ = some (.int .i64 ((p : Int) + 1)) := by rw [← hW]; exact set_same _ c1
    have z2 : W1.cell? ⟨D, o + p, none⟩ = some (.int .u8 y) := (cell_kept hg hD (fun e => hDK (by injection e))).trans hx
    have hco : CoAt K D l (p + 1) W1 := by
      refine ⟨⟨_, cap, z0, h2, ?_⟩, by rw [z1]; rfl, by rw [← hW, set_froz]; exact f1, Nat.lt_of_lt_of_le hlk hg.size, fun _ => Nat.lt_of_lt_of_le hD hg.size, fun _ => hDK, by omega, hle, HH.out.small⟩
      have h3' : ReadsL (w.drewN a) D (some ⟨D, o, none⟩) l := h3
      exact h3'.kept hg (fun e => hKD (by injection e))
    have HC := Lib.hid hco
    have HG : Hid (w.grownBy W1 (some K)) := Lib.hid ⟨hg.os, hg.tape, hg.output, hg.size, hg.block⟩
    have e1 : IntKind.i64.wrap ((p : Int) + 1 - 1) = p := by rw [show (p : Int) + 1 - 1 = p from by omega]; exact IntWalk.i64_in _ (by omega)
    have e2 : (p : Int) + 1 - 1 = p := by omega
    have e3 : 0 ≤ (p : Int) := by omega
    have e4 : (p : Int) < (cap : Int) := by omega
    clear hg hW h0 hx c1 f1 hco h3
    go_quiet (fail)
    go_wp2
    go_ret
    refine ⟨y % n, Nat.mod_lt _ (by omega), fun e => absurd e hne, ?_, ⟨HG.out.os, HG.out.tape, HG.out.output, HG.out.size, HG.out.block⟩, p + 1, HC.out.drewN⟩
    rw [Int.natCast_emod]
    rfl
  · have hd : decide (p < l.length) = false := by simpa using hlt
    rw [hd] at HL
    clear h hd
    go_enter Tryz.func30, Tryz.ntmps30
    go_wp2_with (go_at_call 27; (refine HL.out.mono ?_; rintro e w' ⟨rfl, a, rfl⟩))
    go_ret
    exact ⟨0, by omega, fun _ => rfl, rfl, ⟨rfl, rfl, rfl, Nat.le_refl _, fun _ _ _ => rfl⟩, p, HH.out.drewN⟩
theorem next_any {K D p : Nat} {l : List Nat} {w : World} (n : Nat) (hn : 1 ≤ n) (hn2 : n ≤ 1000000) (h : CoAt K D l p w) : Calls Tryz.prog 30 #[.pointer (some ⟨K, 0, none⟩), .int .i64 n] w (Chose K D l n w) := (next_z n hn hn2 h).mono fun _ _ ⟨v, h1, _, h2, h3, h4⟩ => ⟨v, h1, h2, h3, h4⟩
set_option maxRecDepth 100000 in
theorem conew_any (A : Option Addr) (D n cap : Nat) (l : List Nat) (w : World) (hr : ReadsL w D A l) (hD : l ≠ [] → D < w.heap.size) (hl : l.length = n) (hn : n ≤ cap) (hcap : cap ≤ maxLen) (hs : Small l) :
    Calls Tryz.prog 15 #[.slice A n cap, .int .i64 120] w fun e w' => e = .returned (.pointer (some ⟨w.heap.size, 0, none⟩)) ∧ Below w.heap.size w w' ∧ w.heap.size < w'.heap.size ∧ CoAt w.heap.size D (l.take 120) 0 w' := by
  unfold maxLen at hcap
  obtain ⟨m, hm⟩ : ∃ m : Nat, m = min n 120 := ⟨_, rfl⟩
  have e1 : min (n : Int) 120 = m := by omega
  have e2 : (m : Int) ≤ (cap : Int) := by omega
  have e3 : 0 ≤ (m : Int) := by omega
  have hlm : (l.take 120).length = m := by rw [List.length_take]; omega
  have hmc : m ≤ cap := by omega
  have hm120 : m ≤ 120 := by omega
  have HR := Lib.hid (hr.take 120)
  have HM := Lib.hid hlm
  clear hr hl hm hlm
  go_enter Tryz.func15, Tryz.ntmps15
  go_wp2
  go_ret
  have hg := grown_alloc w (.cells #[.slice A m cap, .int .i64 0] 110) none
  refine ⟨rfl, (Below.refl _ _).alloc (Nat.le_refl _) _, by simp, ⟨⟨A, cap, ?_, by rw [HM.out]; exact hmc, HR.out.kept' hg (by simp)⟩, by rw [World.cell?_alloc_new]; rfl, by rw [World.frozen?_alloc_new], by simp, fun e => ?_, fun e => ?_, Nat.zero_le _, by rw [HM.out]; exact hm120, hs.take _⟩⟩
  · rw [World.cell?_alloc_new, HM.out]; rfl
  · have := hD (fun e2 => e (by rw [e2]; rfl)); simp; omega
  · have := hD (fun e2 => e (by rw [e2]; rfl)); omega
end Go.Proofs.YtldgjahpmlafgaaGreat
