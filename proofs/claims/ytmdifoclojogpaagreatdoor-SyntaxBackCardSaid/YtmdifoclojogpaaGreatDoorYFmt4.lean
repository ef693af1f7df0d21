/- Layer 7: the program's writer: a node of one part. -/
import Derived.Test.YtmdifoclojogpaaGreatDoorYFmt3
namespace Go.Proofs.YtmdifoclojogpaaGreatDoor
open Go.RowKit

theorem box_keep {B b : Nat} {w w2 : World} {cs : Array Value} {T : TypeId} (h : BKp B b (w.alloc (.cells cs T)) w2) (hb : b ≠ w.heap.size) (hT : T ≠ 5) (j : Nat) : w2.cell? ⟨w.heap.size, j, none⟩ = cs[j]? := by
  have h1 := bkp_box h (heap_alloc_new w (.cells cs T)) (fun e => hb e.symm) hT
  unfold World.cell?
  rw [h1]
  rfl
set_option maxRecDepth 100000 in
set_option maxHeartbeats 8000000 in
theorem fy_node_un {B b len cap : Nat} {A : Option Addr} {o : List Nd} {i : Nat} {n : Nd} (hn : o[i]? = some n) (hop : n.op = 4 ∨ n.op = 5) {m : Nat} {T : List UInt8} (ha : OpC B b len cap A o n.a m T) : FmtC B b len cap A o i (m + 1) (bl (sy n.op) ++ T) := by
  intro w left s hw hm hl hs
  obtain ⟨g, rfl, hg, hil, c0, c1, c2, c3, c4, c5, c6⟩ := hw.at hn
  obtain ⟨op, a, b2, nm, at_, v⟩ := n
  simp only at c0 c1 c2 c3 c4 c5 c6 hop ha hs ⊢
  generalize hi v = v1 at *
  generalize lo v = v2 at *
  have b0 := hw.c0
  have b1 := hw.c1
  have f1 := hw.bd.ge.2.2 1
  have hbw := hw.bd.ge.2.1
  have hbB := hw.bd.ge.1
  have hgb : g ≠ b := by omega
  have i1 : ¬ (i : Int) < 0 := by omega
  have i2 : ¬ (len : Int) ≤ (i : Int) := by omega
  have i3 : (i : Int) < (len : Int) := by omega
  have i4 : ((left : Int) == 0) = false := by rw [beq_eq_false_iff_ne]; omega
  have HW := Lib.hid (wr_zero hw (by omega) (.cells #[.int .i64 (op : Nat), .int .i64 (a : Nat), .int .i64 (b2 : Nat), .string nm, .string at_, .int .u64 v1, .int .u64 v2] 67)).1
  have HK := Lib.hid (wr_zero hw (by omega) (.cells #[.int .i64 (op : Nat), .int .i64 (a : Nat), .int .i64 (b2 : Nat), .string nm, .string at_, .int .u64 v1, .int .u64 v2] 67)).2
  have HBW : Hid (B ≤ ((w.setCell ⟨b, 1, none⟩ (.int .i64 ((left : Int) - 1))).alloc (.cells #[.int .i64 (op : Nat), .int .i64 (a : Nat), .int .i64 (b2 : Nat), .string nm, .string at_, .int .u64 v1, .int .u64 v2] 67)).heap.size) := Lib.hid (by simp; omega)
  have hsy := hw.sy.c op (by omega)
  have hgl := hw.lt
  have hxs : (sy op).size ≤ 100 := by rcases hop with rfl | rfl <;> decide
  have hle : left - (m + 1) = left - 1 - m := by omega
  have HAS : Hid (s ++ (bl (sy op) ++ T) = s ++ bl (sy op) ++ T) := Lib.hid (by rw [List.append_assoc])
  rw [List.length_append, bl_len] at hs
  rw [hle, HAS.out]
  have hge : bl (sy op) = bl (sy op) := rfl
  generalize sy op = x at hsy hxs hs ⊢
  obtain ⟨j, hj⟩ : ∃ j : Int, j = (a : Nat) := ⟨_, rfl⟩
  have KP : Hid (∀ w1, Below ((w.setCell ⟨b, 1, none⟩ (.int .i64 ((left : Int) - 1))).alloc (.cells #[.int .i64 (op : Nat), .int .i64 (a : Nat), .int .i64 (b2 : Nat), .string nm, .string at_, .int .u64 v1, .int .u64 v2] 67)).heap.size ((w.setCell ⟨b, 1, none⟩ (.int .i64 ((left : Int) - 1))).alloc (.cells #[.int .i64 (op : Nat), .int .i64 (a : Nat), .int .i64 (b2 : Nat), .string nm, .string at_, .int .u64 v1, .int .u64 v2] 67)) w1 → Calls Tryz.prog 67 #[.pointer (some ⟨b, 2, none⟩), .string x] w1 (RetW B b len cap (some ⟨g, 0, none⟩) o (left - 1) (s ++ bl x) (.tuple #[.int .i64 x.size, .nilIface]) w1)) := Lib.hid fun w1 h1 => fy_put (HW.out.call h1) x (by omega) (by omega)
  have KO : Hid (∀ w2, WrAt B b (some ⟨g, 0, none⟩) len cap o (left - 1) (s ++ bl x) w2 → Calls Tryz.prog 69 #[.pointer (some ⟨b, 0, none⟩), .int .i64 (a : Nat)] w2 (RetW B b len cap (some ⟨g, 0, none⟩) o (left - 1 - m) (s ++ bl x ++ T) (.tuple #[]) w2)) := Lib.hid fun w2 h2 => ha w2 (left - 1) _ h2 (by omega) (by omega) (by rw [List.length_append, bl_len]; omega)
  have HKK : Hid (∀ w1, Below ((w.setCell ⟨b, 1, none⟩ (.int .i64 ((left : Int) - 1))).alloc (.cells #[.int .i64 (op : Nat), .int .i64 (a : Nat), .int .i64 (b2 : Nat), .string nm, .string at_, .int .u64 v1, .int .u64 v2] 67)).heap.size ((w.setCell ⟨b, 1, none⟩ (.int .i64 ((left : Int) - 1))).alloc (.cells #[.int .i64 (op : Nat), .int .i64 (a : Nat), .int .i64 (b2 : Nat), .string nm, .string at_, .int .u64 v1, .int .u64 v2] 67)) w1 → BKp B b ((w.setCell ⟨b, 1, none⟩ (.int .i64 ((left : Int) - 1))).alloc (.cells #[.int .i64 (op : Nat), .int .i64 (a : Nat), .int .i64 (b2 : Nat), .string nm, .string at_, .int .u64 v1, .int .u64 v2] 67)) w1) := Lib.hid fun w1 h1 => BKp.of h1 HBW.out
  have HBX : Hid (∀ w2, BKp B b ((w.setCell ⟨b, 1, none⟩ (.int .i64 ((left : Int) - 1))).alloc (.cells #[.int .i64 (op : Nat), .int .i64 (a : Nat), .int .i64 (b2 : Nat), .string nm, .string at_, .int .u64 v1, .int .u64 v2] 67)) w2 → ∀ j, w2.cell? ⟨w.heap.size, j, none⟩ = (#[.int .i64 (op : Nat), .int .i64 (a : Nat), .int .i64 (b2 : Nat), .string nm, .string at_, .int .u64 v1, .int .u64 v2] : Array Value)[j]?) := Lib.hid fun w2 h2 j => by
    have e : (w.setCell ⟨b, 1, none⟩ (.int .i64 ((left : Int) - 1))).heap.size = w.heap.size := World.size_setCell _ _ _
    have := box_keep h2 (by rw [e]; omega) (by decide) j
    rwa [e] at this
  have hsb : 1 ≠ b := by omega
  have hsw : 1 < w.heap.size := by omega
  have hsn : 1 ≠ w.heap.size := by omega
  have o1 : ((op : Int) == 1) = false := by rw [beq_eq_false_iff_ne]; omega
  have o2 : ((op : Int) == 2) = false := by rw [beq_eq_false_iff_ne]; omega
  have o3 : ((op : Int) == 3) = false := by rw [beq_eq_false_iff_ne]; omega
  have o4 : (op : Int) < 17 := by omega
  have o5 : 0 ≤ (op : Int) := by omega
  clear hs hw hn HBW HW ha hle hge hj HAS
  go_enter Tryz.func35, Tryz.ntmps35
  go_wp2
  all_goals
    go_region_with (go_at_call 67; go_loud (refine (KP.out _ ((Below.refl _ _).drew)).mono ?_; rintro e w2 ⟨rfl, h2, k2⟩; have H2 := Lib.hid h2; have HK2 := Lib.hid ((HKK.out _ ((Below.refl _ _).drew)).trans k2); clear h2 k2))
    all_goals
      have q1 : w2.cell? ⟨w.heap.size, 1, none⟩ = some (.int .i64 (a : Nat)) := HBX.out _ HK2.out 1
      go_wp2_with fail
      go_at_call 69
      refine (KO.out _ H2.out).mono ?_
      rintro e w3 ⟨rfl, h3, k3⟩
      have H3 := Lib.hid h3
      have HK3 := Lib.hid (HK.out.trans (HK2.out.trans k3))
      clear h3 k3
      go_wp2_with fail
      go_end0
      exact ⟨rfl, H3.out, HK3.out⟩
end Go.Proofs.YtmdifoclojogpaaGreatDoor
