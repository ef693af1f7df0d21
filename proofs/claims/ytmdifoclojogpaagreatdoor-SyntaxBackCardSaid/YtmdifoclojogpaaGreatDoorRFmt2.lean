/- Layer 7: the reference's text of a tree. -/
import Derived.Test.YtmdifoclojogpaaGreatDoorRFmt1
namespace Go.Proofs.YtmdifoclojogpaaGreatDoor
open Go.RowKit

set_option maxRecDepth 100000 in
set_option maxHeartbeats 4000000 in
theorem rf_un {m cap : Nat} {A : Option Addr} {o : List Nd} {i : Nat} {n : Nd} (hm : o.length = m) (hn : o[i]? = some n) (hop : n.op = 4 ∨ n.op = 5) {T : ByteArray} (ha : RfC m cap A o n.a T) (hT : T.size ≤ 90000000) : RfC m cap A o i (sy n.op ++ ⟨#[40]⟩ ++ T ++ ⟨#[41]⟩) := by
  intro w hw
  obtain ⟨g, rfl, hg, hil, c0, c1, c2, c3, c4, c5, c6⟩ := nodR_at hw hn
  rw [hm] at hil
  have i1 : ¬ (i : Int) < 0 := by omega
  have i2 : (i : Int) < (m : Int) := by omega
  have i3 : 0 ≤ (i : Int) := by omega
  obtain ⟨op, a, b, nm, at_, v⟩ := n
  simp only at c0 c1 c2 c3 c4 c5 c6 hop ha ⊢
  generalize hi v = v1 at *
  generalize lo v = v2 at *
  have KA : Hid (∀ W, Below w.heap.size w W → Calls Tryz.prog 37 #[.slice (some ⟨g, 0, none⟩) m cap, .int .i64 (a : Nat)] W (RetX (.string T) W)) := Lib.hid fun W hW => ha W (hw.below hW)
  clear hw hn hm ha
  rcases hop with rfl | rfl
  · have HE : Hid (sy 4 ++ ⟨#[40]⟩ ++ T ++ ⟨#[41]⟩ = ⟨#[45, 40]⟩ ++ T ++ ⟨#[41]⟩) := Lib.hid rfl
    rw [HE.out]
    go_enter Tryz.func37, Tryz.ntmps37
    go_wp2_with fail
    go_at_call 37
    refine (KA.out _ ((Below.refl _ _).alloc (Nat.le_refl _) _)).mono ?_
    rintro e w1 ⟨rfl, hb1⟩
    go_wp2_with fail
    go_ret
    exact ⟨rfl, ((Below.refl _ _).alloc (Nat.le_refl _) _).trans (hb1.mono (by simp))⟩
  · have HE : Hid (sy 5 ++ ⟨#[40]⟩ ++ T ++ ⟨#[41]⟩ = ⟨#[33, 40]⟩ ++ T ++ ⟨#[41]⟩) := Lib.hid rfl
    rw [HE.out]
    go_enter Tryz.func37, Tryz.ntmps37
    go_wp2_with fail
    go_at_call 37
    refine (KA.out _ ((Below.refl _ _).alloc (Nat.le_refl _) _)).mono ?_
    rintro e w1 ⟨rfl, hb1⟩
    go_wp2_with fail
    go_ret
    exact ⟨rfl, ((Below.refl _ _).alloc (Nat.le_refl _) _).trans (hb1.mono (by simp))⟩
theorem strs_at : ∀ o, 6 ≤ o → o ≤ 16 → (#[.string ⟨#[43]⟩, .string ⟨#[45]⟩, .string ⟨#[61, 61]⟩, .string ⟨#[33, 61]⟩, .string ⟨#[60]⟩, .string ⟨#[60, 61]⟩, .string ⟨#[62]⟩, .string ⟨#[62, 61]⟩, .string ⟨#[38, 38]⟩, .string ⟨#[124, 124]⟩, .string ⟨#[45, 62]⟩] : Array Value)[o - 6]? = some (.string (sy o)) := by
  intro o h1 h2
  have : o = 6 ∨ o = 7 ∨ o = 8 ∨ o = 9 ∨ o = 10 ∨ o = 11 ∨ o = 12 ∨ o = 13 ∨ o = 14 ∨ o = 15 ∨ o = 16 := by omega
  rcases this with rfl | rfl | rfl | rfl | rfl | rfl | rfl | rfl | rfl | rfl | rfl <;> rfl
theorem rf_stay {W0 W : World} {p a b : Nat} (hp : p < W0.heap.size) (h1 : W0.cell? ⟨p, 1, none⟩ = some (.int .i64 (a : Nat))) (h2 : W0.cell? ⟨p, 2, none⟩ = some (.int .i64 (b : Nat))) (h : Below W0.heap.size W0 W) : Below W0.heap.size W0 W ∧ W.cell? ⟨p, 1, none⟩ = some (.int .i64 (a : Nat)) ∧ W.cell? ⟨p, 2, none⟩ = some (.int .i64 (b : Nat)) :=
  ⟨h, by rw [h.cell (p := ⟨p, 1, none⟩) hp]; exact h1, by rw [h.cell (p := ⟨p, 2, none⟩) hp]; exact h2⟩
theorem rf_call {W0 W W' : World} (h : Below W0.heap.size W0 W) (k : Below W.heap.size W W') : Below W0.heap.size W0 W' := h.trans (k.mono h.size)
theorem sy_size : ∀ o, o ≤ 16 → (sy o).size ≤ 100 := by decide
set_option maxRecDepth 100000 in
set_option maxHeartbeats 8000000 in
theorem rf_bin {m cap : Nat} {A : Option Addr} {o : List Nd} {i : Nat} {n : Nd} (hm : o.length = m) (hn : o[i]? = some n) (h6 : 6 ≤ n.op) (h16 : n.op ≤ 16) {T1 T2 : ByteArray} (ha : RfC m cap A o n.a T1) (hb : RfC m cap A o n.b T2) (hT1 : T1.size ≤ 90000000) (hT2 : T2.size ≤ 90000000) : RfC m cap A o i (⟨#[40]⟩ ++ T1 ++ ⟨#[41, 32]⟩ ++ sy n.op ++ ⟨#[32, 40]⟩ ++ T2 ++ ⟨#[41]⟩) := by
  intro w hw
  obtain ⟨g, rfl, hg, hil, c0, c1, c2, c3, c4, c5, c6⟩ := nodR_at hw hn
  rw [hm] at hil
  have i1 : ¬ (i : Int) < 0 := by omega
  have i2 : (i : Int) < (m : Int) := by omega
  have i3 : 0 ≤ (i : Int) := by omega
  obtain ⟨op, a, b, nm, at_, v⟩ := n
  simp only at c0 c1 c2 c3 c4 c5 c6 h6 h16 ha hb ⊢
  generalize hi v = v1 at *
  generalize lo v = v2 at *
  have hB0 : Below w.heap.size w ((w.alloc (.cells #[.int .i64 (op : Nat), .int .i64 (a : Nat), .int .i64 (b : Nat), .string nm, .string at_, .int .u64 v1, .int .u64 v2] 68)).alloc (.cells #[.string ⟨#[43]⟩, .string ⟨#[45]⟩, .string ⟨#[61, 61]⟩, .string ⟨#[33, 61]⟩, .string ⟨#[60]⟩, .string ⟨#[60, 61]⟩, .string ⟨#[62]⟩, .string ⟨#[62, 61]⟩, .string ⟨#[38, 38]⟩, .string ⟨#[124, 124]⟩, .string ⟨#[45, 62]⟩] 9)) := ((Below.refl _ _).alloc (Nat.le_refl _) _).alloc (by simp) _
  have HB0 := Lib.hid hB0
  have KA : Hid (∀ W, Below ((w.alloc (.cells #[.int .i64 (op : Nat), .int .i64 (a : Nat), .int .i64 (b : Nat), .string nm, .string at_, .int .u64 v1, .int .u64 v2] 68)).alloc (.cells #[.string ⟨#[43]⟩, .string ⟨#[45]⟩, .string ⟨#[61, 61]⟩, .string ⟨#[33, 61]⟩, .string ⟨#[60]⟩, .string ⟨#[60, 61]⟩, .string ⟨#[62]⟩, .string ⟨#[62, 61]⟩, .string ⟨#[38, 38]⟩, .string ⟨#[124, 124]⟩, .string ⟨#[45, 62]⟩] 9)).heap.size ((w.alloc (.cells #[.int .i64 (op : Nat), .int .i64 (a : Nat), .int .i64 (b : Nat), .string nm, .string at_, .int .u64 v1, .int .u64 v2] 68)).alloc (.cells #[.string ⟨#[43]⟩, .string ⟨#[45]⟩, .string ⟨#[61, 61]⟩, .string ⟨#[33, 61]⟩, .string ⟨#[60]⟩, .string ⟨#[60, 61]⟩, .string ⟨#[62]⟩, .string ⟨#[62, 61]⟩, .string ⟨#[38, 38]⟩, .string ⟨#[124, 124]⟩, .string ⟨#[45, 62]⟩] 9)) W → Calls Tryz.prog 37 #[.slice (some ⟨g, 0, none⟩) m cap, .int .i64 (a : Nat)] W (RetX (.string T1) W)) := Lib.hid fun W hW => ha W (hw.below (hB0.trans (hW.mono (by simp; omega))))
  have KB : Hid (∀ W, Below ((w.alloc (.cells #[.int .i64 (op : Nat), .int .i64 (a : Nat), .int .i64 (b : Nat), .string nm, .string at_, .int .u64 v1, .int .u64 v2] 68)).alloc (.cells #[.string ⟨#[43]⟩, .string ⟨#[45]⟩, .string ⟨#[61, 61]⟩, .string ⟨#[33, 61]⟩, .string ⟨#[60]⟩, .string ⟨#[60, 61]⟩, .string ⟨#[62]⟩, .string ⟨#[62, 61]⟩, .string ⟨#[38, 38]⟩, .string ⟨#[124, 124]⟩, .string ⟨#[45, 62]⟩] 9)).heap.size ((w.alloc (.cells #[.int .i64 (op : Nat), .int .i64 (a : Nat), .int .i64 (b : Nat), .string nm, .string at_, .int .u64 v1, .int .u64 v2] 68)).alloc (.cells #[.string ⟨#[43]⟩, .string ⟨#[45]⟩, .string ⟨#[61, 61]⟩, .string ⟨#[33, 61]⟩, .string ⟨#[60]⟩, .string ⟨#[60, 61]⟩, .string ⟨#[62]⟩, .string ⟨#[62, 61]⟩, .string ⟨#[38, 38]⟩, .string ⟨#[124, 124]⟩, .string ⟨#[45, 62]⟩] 9)) W → Calls Tryz.prog 37 #[.slice (some ⟨g, 0, none⟩) m cap, .int .i64 (b : Nat)] W (RetX (.string T2) W)) := Lib.hid fun W hW => hb W (hw.below (hB0.trans (hW.mono (by simp; omega))))
  have HBX : Hid (∀ W, Below ((w.alloc (.cells #[.int .i64 (op : Nat), .int .i64 (a : Nat), .int .i64 (b : Nat), .string nm, .string at_, .int .u64 v1, .int .u64 v2] 68)).alloc (.cells #[.string ⟨#[43]⟩, .string ⟨#[45]⟩, .string ⟨#[61, 61]⟩, .string ⟨#[33, 61]⟩, .string ⟨#[60]⟩, .string ⟨#[60, 61]⟩, .string ⟨#[62]⟩, .string ⟨#[62, 61]⟩, .string ⟨#[38, 38]⟩, .string ⟨#[124, 124]⟩, .string ⟨#[45, 62]⟩] 9)).heap.size ((w.alloc (.cells #[.int .i64 (op : Nat), .int .i64 (a : Nat), .int .i64 (b : Nat), .string nm, .string at_, .int .u64 v1, .int .u64 v2] 68)).alloc (.cells #[.string ⟨#[43]⟩, .string ⟨#[45]⟩, .string ⟨#[61, 61]⟩, .string ⟨#[33, 61]⟩, .string ⟨#[60]⟩, .string ⟨#[60, 61]⟩, .string ⟨#[62]⟩, .string ⟨#[62, 61]⟩, .string ⟨#[38, 38]⟩, .string ⟨#[124, 124]⟩, .string ⟨#[45, 62]⟩] 9)) W → ∀ j, W.cell? ⟨w.heap.size, j, none⟩ = (w.alloc (.cells #[.int .i64 (op : Nat), .int .i64 (a : Nat), .int .i64 (b : Nat), .string nm, .string at_, .int .u64 v1, .int .u64 v2] 68)).cell? ⟨w.heap.size, j, none⟩) := Lib.hid fun W hW j => by
    have e : (((w.alloc (.cells #[.int .i64 (op : Nat), .int .i64 (a : Nat), .int .i64 (b : Nat), .string nm, .string at_, .int .u64 v1, .int .u64 v2] 68)).alloc (.cells #[.string ⟨#[43]⟩, .string ⟨#[45]⟩, .string ⟨#[61, 61]⟩, .string ⟨#[33, 61]⟩, .string ⟨#[60]⟩, .string ⟨#[60, 61]⟩, .string ⟨#[62]⟩, .string ⟨#[62, 61]⟩, .string ⟨#[38, 38]⟩, .string ⟨#[124, 124]⟩, .string ⟨#[45, 62]⟩] 9))).heap.size = w.heap.size + 2 := by simp
    rw [hW.cell (p := ⟨w.heap.size, j, none⟩) (by rw [e]; show w.heap.size < _; omega)]
    exact ((Below.refl (w.alloc (.cells #[.int .i64 (op : Nat), .int .i64 (a : Nat), .int .i64 (b : Nat), .string nm, .string at_, .int .u64 v1, .int .u64 v2] 68)).heap.size (w.alloc (.cells #[.int .i64 (op : Nat), .int .i64 (a : Nat), .int .i64 (b : Nat), .string nm, .string at_, .int .u64 v1, .int .u64 v2] 68))).alloc (Nat.le_refl _) _).cell (p := ⟨w.heap.size, j, none⟩) (by simp)
  have HSR := Lib.hid (strs_at op h6 h16)
  have hsz := sy_size op h16
  generalize hx : sy op = x at HSR hsz ⊢
  have o1 : ((op : Int) == 1) = false := by rw [beq_eq_false_iff_ne]; omega
  have o2 : ((op : Int) == 2) = false := by rw [beq_eq_false_iff_ne]; omega
  have o3 : ((op : Int) == 3) = false := by rw [beq_eq_false_iff_ne]; omega
  have o4 : ((op : Int) == 4) = false := by rw [beq_eq_false_iff_ne]; omega
  have o5 : ((op : Int) == 5) = false := by rw [beq_eq_false_iff_ne]; omega
  have o6 : (op : Int) - 6 < 11 := by omega
  have o7 : 0 ≤ (op : Int) - 6 := by omega
  have o8 : ((op : Int) - 6).toNat = op - 6 := by omega
  have s0 : ((w.alloc (.cells #[.int .i64 (op : Nat), .int .i64 (a : Nat), .int .i64 (b : Nat), .string nm, .string at_, .int .u64 v1, .int .u64 v2] 68)).alloc (.cells #[.string ⟨#[43]⟩, .string ⟨#[45]⟩, .string ⟨#[61, 61]⟩, .string ⟨#[33, 61]⟩, .string ⟨#[60]⟩, .string ⟨#[60, 61]⟩, .string ⟨#[62]⟩, .string ⟨#[62, 61]⟩, .string ⟨#[38, 38]⟩, .string ⟨#[124, 124]⟩, .string ⟨#[45, 62]⟩] 9)).cell? ⟨w.heap.size + 1, op - 6, none⟩ = some (.string x) := by
    have e : w.heap.size + 1 = (w.alloc (.cells #[.int .i64 (op : Nat), .int .i64 (a : Nat), .int .i64 (b : Nat), .string nm, .string at_, .int .u64 v1, .int .u64 v2] 68)).heap.size := by simp
    rw [e, World.cell?_alloc_new]; exact HSR.out
  have HS0 := Lib.hid s0
  clear hw hn hm ha hb hB0 hx
  go_enter Tryz.func37, Tryz.ntmps37
  go_wp2_with fail
  have q1 : ((w.alloc (.cells #[.int .i64 (op : Nat), .int .i64 (a : Nat), .int .i64 (b : Nat), .string nm, .string at_, .int .u64 v1, .int .u64 v2] 68)).alloc (.cells #[.string ⟨#[43]⟩, .string ⟨#[45]⟩, .string ⟨#[61, 61]⟩, .string ⟨#[33, 61]⟩, .string ⟨#[60]⟩, .string ⟨#[60, 61]⟩, .string ⟨#[62]⟩, .string ⟨#[62, 61]⟩, .string ⟨#[38, 38]⟩, .string ⟨#[124, 124]⟩, .string ⟨#[45, 62]⟩] 9)).cell? ⟨w.heap.size, 1, none⟩ = some (.int .i64 (a : Nat)) := by rw [HBX.out _ (Below.refl _ _) 1, World.cell?_alloc_new]; rfl
  have q2 : ((w.alloc (.cells #[.int .i64 (op : Nat), .int .i64 (a : Nat), .int .i64 (b : Nat), .string nm, .string at_, .int .u64 v1, .int .u64 v2] 68)).alloc (.cells #[.string ⟨#[43]⟩, .string ⟨#[45]⟩, .string ⟨#[61, 61]⟩, .string ⟨#[33, 61]⟩, .string ⟨#[60]⟩, .string ⟨#[60, 61]⟩, .string ⟨#[62]⟩, .string ⟨#[62, 61]⟩, .string ⟨#[38, 38]⟩, .string ⟨#[124, 124]⟩, .string ⟨#[45, 62]⟩] 9)).cell? ⟨w.heap.size, 2, none⟩ = some (.int .i64 (b : Nat)) := by rw [HBX.out _ (Below.refl _ _) 2, World.cell?_alloc_new]; rfl
  have hp : w.heap.size < ((w.alloc (.cells #[.int .i64 (op : Nat), .int .i64 (a : Nat), .int .i64 (b : Nat), .string nm, .string at_, .int .u64 v1, .int .u64 v2] 68)).alloc (.cells #[.string ⟨#[43]⟩, .string ⟨#[45]⟩, .string ⟨#[61, 61]⟩, .string ⟨#[33, 61]⟩, .string ⟨#[60]⟩, .string ⟨#[60, 61]⟩, .string ⟨#[62]⟩, .string ⟨#[62, 61]⟩, .string ⟨#[38, 38]⟩, .string ⟨#[124, 124]⟩, .string ⟨#[45, 62]⟩] 9)).heap.size := by simp; omega
  clear HBX HS0 HSR
  generalize ((w.alloc (.cells #[.int .i64 (op : Nat), .int .i64 (a : Nat), .int .i64 (b : Nat), .string nm, .string at_, .int .u64 v1, .int .u64 v2] 68)).alloc (.cells #[.string ⟨#[43]⟩, .string ⟨#[45]⟩, .string ⟨#[61, 61]⟩, .string ⟨#[33, 61]⟩, .string ⟨#[60]⟩, .string ⟨#[60, 61]⟩, .string ⟨#[62]⟩, .string ⟨#[62, 61]⟩, .string ⟨#[38, 38]⟩, .string ⟨#[124, 124]⟩, .string ⟨#[45, 62]⟩] 9)) = W0 at HB0 KA KB q1 q2 hp ⊢
  have hwb : w.heap.size ≤ W0.heap.size := by omega
  have g1 : ¬ 9223372036854775807 < 1 + T1.size := by omega
  have g2 : ¬ 9223372036854775807 < 1 + T1.size + 2 := by omega
  have g3 : ¬ 9223372036854775807 < 1 + T1.size + 2 + x.size := by omega
  have g4 : ¬ 9223372036854775807 < 1 + T1.size + 2 + x.size + 2 := by omega
  have g5 : ¬ 9223372036854775807 < 1 + T1.size + 2 + x.size + 2 + T2.size := by omega
  have g6 : ¬ 9223372036854775807 < 1 + T1.size + 2 + x.size + 2 + T2.size + 1 := by omega
  go_region_held3 (fun w' => Below W0.heap.size W0 w' ∧ w'.cell? ⟨w.heap.size, 1, none⟩ = some (.int .i64 (a : Nat)) ∧ w'.cell? ⟨w.heap.size, 2, none⟩ = some (.int .i64 (b : Nat)))
    (first
      | exact rf_stay hp q1 q2 (Below.drew (Below.refl _ _))
      | exact rf_stay hp q1 q2 (rf_call (And.left (by assumption)) (by assumption)))
    (first
      | (go_at_call 37; (with_reducible refine (KA.out _ (And.left (by assumption))).mono ?_); rintro e w3 ⟨rfl, hb3⟩)
      | (go_at_call 37; (with_reducible refine (KB.out _ (And.left (by assumption))).mono ?_); rintro e w4 ⟨rfl, hb4⟩))
  all_goals
    go_wp2_with fail
    go_ret
    exact ⟨rfl, HB0.out.trans ((And.left (by assumption) : Below W0.heap.size W0 _).mono hwb)⟩
end Go.Proofs.YtmdifoclojogpaaGreatDoor
