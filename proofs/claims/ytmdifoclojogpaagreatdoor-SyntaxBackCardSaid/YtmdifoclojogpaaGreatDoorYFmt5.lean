/- Layer 7: the program's writer: a node of two parts. -/
import Derived.Test.YtmdifoclojogpaaGreatDoorYFmt4
namespace Go.Proofs.YtmdifoclojogpaaGreatDoor
open Go.RowKit

/-- the operator between its parts -/
def mid (o : Nat) : ByteArray := ⟨#[32]⟩ ++ sy o ++ ⟨#[32]⟩
theorem mid_size : ∀ o, o ≤ 16 → (mid o).size ≤ 100 := by decide
set_option maxRecDepth 100000 in
set_option maxHeartbeats 8000000 in
theorem fy_node_bin {B b len cap : Nat} {A : Option Addr} {o : List Nd} {i : Nat} {n : Nd} (hn : o[i]? = some n) (h6 : 6 ≤ n.op) (h16 : n.op ≤ 16) {m1 m2 : Nat} {T1 T2 : List UInt8} (ha : OpC B b len cap A o n.a m1 T1) (hb : OpC B b len cap A o n.b m2 T2) : FmtC B b len cap A o i (m1 + m2 + 1) (T1 ++ (bl (mid n.op) ++ T2)) := by
  intro w left s hw hm hl hs
  obtain ⟨g, rfl, hg, hil, c0, c1, c2, c3, c4, c5, c6⟩ := hw.at hn
  obtain ⟨op, a, b2, nm, at_, v⟩ := n
  simp only at c0 c1 c2 c3 c4 c5 c6 h6 h16 ha hb hs ⊢
  generalize hi v = v1 at *
  generalize lo v = v2 at *
  have b0 := hw.c0
  have b1 := hw.c1
  have f1 := hw.bd.ge.2.2 1
  have hbw := hw.bd.ge.2.1
  have hbB := hw.bd.ge.1
  have hgb : g ≠ b := by omega
  have i1 : ¬ (i : Int) < 0 := by omega
  have i2 : ¬ (len : Int) ≤ (i : Int) := by omega
  have i3 : (i : Int) < (len : Int) := by omega
  have i4 : ((left : Int) == 0) = false := by rw [beq_eq_false_iff_ne]; omega
  have HW := Lib.hid (wr_zero hw (by omega) (.cells #[.int .i64 (op : Nat), .int .i64 (a : Nat), .int .i64 (b2 : Nat), .string nm, .string at_, .int .u64 v1, .int .u64 v2] 67)).1
  have HK := Lib.hid (wr_zero hw (by omega) (.cells #[.int .i64 (op : Nat), .int .i64 (a : Nat), .int .i64 (b2 : Nat), .string nm, .string at_, .int .u64 v1, .int .u64 v2] 67)).2
  have HBW : Hid (B ≤ ((w.setCell ⟨b, 1, none⟩ (.int .i64 ((left : Int) - 1))).alloc (.cells #[.int .i64 (op : Nat), .int .i64 (a : Nat), .int .i64 (b2 : Nat), .string nm, .string at_, .int .u64 v1, .int .u64 v2] 67)).heap.size) := Lib.hid (by simp; omega)
  have hgl := hw.lt
  have hxs := mid_size op h16
  have hle : left - (m1 + m2 + 1) = left - 1 - m1 - m2 := by omega
  have HAS : Hid (s ++ (T1 ++ (bl (mid op) ++ T2)) = s ++ T1 ++ bl (mid op) ++ T2) := Lib.hid (by simp [List.append_assoc])
  rw [List.length_append, List.length_append, bl_len] at hs
  rw [hle, HAS.out]
  have KS : Hid (∀ W, SymY W → Calls Tryz.prog 70 #[.int .i64 (op : Nat)] W (RetX (.string (sy op)) W)) := Lib.hid fun W hW => fy_sym op h16 W hW
  have hmd : ⟨#[32]⟩ ++ sy op ++ ⟨#[32]⟩ = mid op := rfl
  have hz1 : (sy op).size ≤ 100 := by unfold mid at hxs; simp [ByteArray.size_append] at hxs; omega
  generalize mid op = x at hxs hs hmd ⊢
  generalize sy op = y at hmd hz1 KS
  have KO1 : Hid (∀ w2, WrAt B b (some ⟨g, 0, none⟩) len cap o (left - 1) s w2 → Calls Tryz.prog 69 #[.pointer (some ⟨b, 0, none⟩), .int .i64 (a : Nat)] w2 (RetW B b len cap (some ⟨g, 0, none⟩) o (left - 1 - m1) (s ++ T1) (.tuple #[]) w2)) := Lib.hid fun w2 h2 => ha w2 (left - 1) _ h2 (by omega) (by omega) (by omega)
  have KP : Hid (∀ w2, WrAt B b (some ⟨g, 0, none⟩) len cap o (left - 1 - m1) (s ++ T1) w2 → Calls Tryz.prog 67 #[.pointer (some ⟨b, 2, none⟩), .string x] w2 (RetW B b len cap (some ⟨g, 0, none⟩) o (left - 1 - m1) (s ++ T1 ++ bl x) (.tuple #[.int .i64 x.size, .nilIface]) w2)) := Lib.hid fun w2 h2 => fy_put h2 x (by omega) (by rw [List.length_append]; omega)
  have KO2 : Hid (∀ w2, WrAt B b (some ⟨g, 0, none⟩) len cap o (left - 1 - m1) (s ++ T1 ++ bl x) w2 → Calls Tryz.prog 69 #[.pointer (some ⟨b, 0, none⟩), .int .i64 (b2 : Nat)] w2 (RetW B b len cap (some ⟨g, 0, none⟩) o (left - 1 - m1 - m2) (s ++ T1 ++ bl x ++ T2) (.tuple #[]) w2)) := Lib.hid fun w2 h2 => hb w2 (left - 1 - m1) _ h2 (by omega) (by omega) (by rw [List.length_append, List.length_append, bl_len]; omega)
  have HBX : Hid (∀ w2, BKp B b ((w.setCell ⟨b, 1, none⟩ (.int .i64 ((left : Int) - 1))).alloc (.cells #[.int .i64 (op : Nat), .int .i64 (a : Nat), .int .i64 (b2 : Nat), .string nm, .string at_, .int .u64 v1, .int .u64 v2] 67)) w2 → ∀ j, w2.cell? ⟨w.heap.size, j, none⟩ = (#[.int .i64 (op : Nat), .int .i64 (a : Nat), .int .i64 (b2 : Nat), .string nm, .string at_, .int .u64 v1, .int .u64 v2] : Array Value)[j]?) := Lib.hid fun w2 h2 j => by
    have e : (w.setCell ⟨b, 1, none⟩ (.int .i64 ((left : Int) - 1))).heap.size = w.heap.size := World.size_setCell _ _ _
    have := box_keep h2 (by rw [e]; omega) (by decide) j
    rwa [e] at this
  have o1 : ((op : Int) == 1) = false := by rw [beq_eq_false_iff_ne]; omega
  have o2 : ((op : Int) == 2) = false := by rw [beq_eq_false_iff_ne]; omega
  have o3 : ((op : Int) == 3) = false := by rw [beq_eq_false_iff_ne]; omega
  have o4 : ((op : Int) == 4) = false := by rw [beq_eq_false_iff_ne]; omega
  have o5 : ((op : Int) == 5) = false := by rw [beq_eq_false_iff_ne]; omega
  have HMD := Lib.hid hmd
  clear hs hw hn HBW ha hb hle HAS hmd
  go_enter Tryz.func35, Tryz.ntmps35
  go_wp2_with fail
  go_at_call 69
  refine (KO1.out _ HW.out).mono ?_
  rintro e w2 ⟨rfl, h2, k2⟩
  have H2 := Lib.hid h2
  have HK2 := Lib.hid k2
  have q0 : w2.cell? ⟨w.heap.size, 0, none⟩ = some (.int .i64 (op : Nat)) := HBX.out _ HK2.out 0
  clear h2 k2 KO1 HW
  go_wp2_with fail
  go_region_with (first | (go_at_call 70; go_loud (refine (KS.out _ (H2.out.call ((Below.refl _ _).drew)).sy).mono ?_; rintro e w3 ⟨rfl, hb3⟩; have HB3 : Hid (Below w2.heap.size w2 w3) := Lib.hid (((Below.refl _ _).drew).trans hb3); clear hb3)) | (go_at_call 67; go_loud (rw [HMD.out]; refine (KP.out _ (H2.out.call HB3.out)).mono ?_; rintro e w4 ⟨rfl, h4, k4⟩; have H4 := Lib.hid h4; have HK4 := Lib.hid (HK2.out.trans ((BKp.of HB3.out (by have := H2.out.bd.ge; omega)).trans k4)); clear h4 k4)))
  all_goals
    have q2 : w4.cell? ⟨w.heap.size, 2, none⟩ = some (.int .i64 (b2 : Nat)) := HBX.out _ HK4.out 2
    go_wp2_with fail
    go_at_call 69
    refine (KO2.out _ H4.out).mono ?_
    rintro e w5 ⟨rfl, h5, k5⟩
    have H5 := Lib.hid h5
    have HK5 := Lib.hid (HK.out.trans (HK4.out.trans k5))
    clear h5 k5
    go_wp2_with fail
    go_end0
    exact ⟨rfl, H5.out, HK5.out⟩
end Go.Proofs.YtmdifoclojogpaaGreatDoor
