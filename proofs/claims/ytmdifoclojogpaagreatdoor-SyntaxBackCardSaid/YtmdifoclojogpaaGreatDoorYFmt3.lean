/- Layer 7: the program's writer: a node. -/
import Derived.Test.YtmdifoclojogpaaGreatDoorYFmt2
namespace Go.Proofs.YtmdifoclojogpaaGreatDoor
open Go.RowKit

theorem bkp_box {B b : Nat} {w w' : World} (h : BKp B b w w') {k : Nat} {cs : Array Value} {T : TypeId} {fr : Nat × Nat} (hk : w.heap[k]? = some (.cells cs T fr)) (hb : k ≠ b) (hT : T ≠ 5) : w'.heap[k]? = some (.cells cs T fr) :=
  h.kept k _ hk (fun e2 => hb (by injection e2)) (fun c fz e2 => hT (by injection e2))
theorem WrAt.at {B b len cap left : Nat} {A : Option Addr} {o : List Nd} {s : List UInt8} {w : World} (h : WrAt B b A len cap o left s w) {i : Nat} {n : Nd} (hn : o[i]? = some n) : ∃ g, A = some ⟨g, 0, none⟩ ∧ g < B ∧ i < len ∧
    w.cell? ⟨g, i * 7, none⟩ = some (.int .i64 (n.op : Nat)) ∧ w.cell? ⟨g, i * 7 + 1, none⟩ = some (.int .i64 (n.a : Nat)) ∧ w.cell? ⟨g, i * 7 + 2, none⟩ = some (.int .i64 (n.b : Nat)) ∧ w.cell? ⟨g, i * 7 + 3, none⟩ = some (.string n.name) ∧ w.cell? ⟨g, i * 7 + 4, none⟩ = some (.string n.attr) ∧ w.cell? ⟨g, i * 7 + 5, none⟩ = some (.int .u64 (hi n.val)) ∧ w.cell? ⟨g, i * 7 + 6, none⟩ = some (.int .u64 (lo n.val)) := by
  obtain ⟨g, e, hg, q⟩ := h.nd
  obtain ⟨hk, he⟩ := List.getElem?_eq_some_iff.1 hn
  have hq := q i hk
  rw [he] at hq
  exact ⟨g, e, hg, by rw [← h.ln]; exact hk, hq 0 (by decide), hq 1 (by decide), hq 2 (by decide), hq 3 (by decide), hq 4 (by decide), hq 5 (by decide), hq 6 (by decide)⟩
/-- the world behind the node's first two statements -/
theorem wr_zero {B b len cap left : Nat} {A : Option Addr} {o : List Nd} {s : List UInt8} {w : World} (h : WrAt B b A len cap o left s w) (hm : 1 ≤ left) (ob : Obj) : WrAt B b A len cap o (left - 1) s ((w.setCell ⟨b, 1, none⟩ (.int .i64 ((left : Int) - 1))).alloc ob) ∧ BKp B b w ((w.setCell ⟨b, 1, none⟩ (.int .i64 ((left : Int) - 1))).alloc ob) := by
  have e : (left : Int) - 1 = ((left - 1 : Nat) : Int) := by omega
  rw [e]
  obtain ⟨h1, h2, _⟩ := h.bd.ge
  refine ⟨(h.setL (left - 1)).call ((Below.refl _ _).alloc (Nat.le_refl _) _), ⟨?_, ?_⟩⟩
  · exact ((Below.refl _ _).setCell (p := ⟨b, 1, none⟩) h1 _).alloc (by rw [World.size_setCell]; omega) _
  · exact ((Lib.OthersKept.refl _ _ _).setCell ⟨b, 1, none⟩ rfl _).alloc _
set_option maxRecDepth 100000 in
set_option maxHeartbeats 8000000 in
theorem fy_node_leaf {B b len cap : Nat} {A : Option Addr} {o : List Nd} {i : Nat} {n : Nd} (hn : o[i]? = some n) (h : LeafOk n) (hz : n.name.size ≤ 100000 ∧ n.attr.size ≤ 100000) (hbz : (lfB n).size ≤ 1000000) : FmtC B b len cap A o i 1 (bl (lfB n)) := by
  intro w left s hw hm hl hs
  have KL := Lib.hid fun W => fy_leaf n h hz W
  have hop := h.op
  generalize lfB n = x at KL hbz hs ⊢
  obtain ⟨g, rfl, hg, hil, c0, c1, c2, c3, c4, c5, c6⟩ := hw.at hn
  obtain ⟨op, a, b2, nm, at_, v⟩ := n
  simp only at c0 c1 c2 c3 c4 c5 c6 hop KL
  generalize hi v = v1 at *
  generalize lo v = v2 at *
  have b0 := hw.c0
  have b1 := hw.c1
  have f1 := hw.bd.ge.2.2 1
  have hbw := hw.bd.ge.2.1
  have hbB := hw.bd.ge.1
  have hgb : g ≠ b := by omega
  have i1 : ¬ (i : Int) < 0 := by omega
  have i2 : ¬ (len : Int) ≤ (i : Int) := by omega
  have i3 : (i : Int) < (len : Int) := by omega
  have i4 : ((left : Int) == 0) = false := by rw [beq_eq_false_iff_ne]; omega
  have HW := Lib.hid (wr_zero hw (by omega) (.cells #[.int .i64 (op : Nat), .int .i64 (a : Nat), .int .i64 (b2 : Nat), .string nm, .string at_, .int .u64 v1, .int .u64 v2] 67)).1
  have HK := Lib.hid (wr_zero hw (by omega) (.cells #[.int .i64 (op : Nat), .int .i64 (a : Nat), .int .i64 (b2 : Nat), .string nm, .string at_, .int .u64 v1, .int .u64 v2] 67)).2
  have HBW : Hid (B ≤ ((w.setCell ⟨b, 1, none⟩ (.int .i64 ((left : Int) - 1))).alloc (.cells #[.int .i64 (op : Nat), .int .i64 (a : Nat), .int .i64 (b2 : Nat), .string nm, .string at_, .int .u64 v1, .int .u64 v2] 67)).heap.size) := Lib.hid (by simp; omega)
  have KP : Hid (∀ w1, Below ((w.setCell ⟨b, 1, none⟩ (.int .i64 ((left : Int) - 1))).alloc (.cells #[.int .i64 (op : Nat), .int .i64 (a : Nat), .int .i64 (b2 : Nat), .string nm, .string at_, .int .u64 v1, .int .u64 v2] 67)).heap.size ((w.setCell ⟨b, 1, none⟩ (.int .i64 ((left : Int) - 1))).alloc (.cells #[.int .i64 (op : Nat), .int .i64 (a : Nat), .int .i64 (b2 : Nat), .string nm, .string at_, .int .u64 v1, .int .u64 v2] 67)) w1 → Calls Tryz.prog 67 #[.pointer (some ⟨b, 2, none⟩), .string x] w1 (RetW B b len cap (some ⟨g, 0, none⟩) o (left - 1) (s ++ bl x) (.tuple #[.int .i64 x.size, .nilIface]) w1)) := Lib.hid fun w1 h1 => fy_put (HW.out.call h1) x (by omega) (by omega)
  have HKK : Hid (∀ w1, Below ((w.setCell ⟨b, 1, none⟩ (.int .i64 ((left : Int) - 1))).alloc (.cells #[.int .i64 (op : Nat), .int .i64 (a : Nat), .int .i64 (b2 : Nat), .string nm, .string at_, .int .u64 v1, .int .u64 v2] 67)).heap.size ((w.setCell ⟨b, 1, none⟩ (.int .i64 ((left : Int) - 1))).alloc (.cells #[.int .i64 (op : Nat), .int .i64 (a : Nat), .int .i64 (b2 : Nat), .string nm, .string at_, .int .u64 v1, .int .u64 v2] 67)) w1 → BKp B b w w1) := Lib.hid fun w1 h1 => HK.out.trans (BKp.of h1 HBW.out)
  clear h hz hbz hs hw hn HK HBW HW
  go_enter Tryz.func35, Tryz.ntmps35
  go_wp2
  all_goals
    go_region_with (first | (go_at_call 68; go_loud (refine (KL.out _).mono ?_; rintro e w1 ⟨rfl, hb1⟩; have HB1 : Hid (Below ((w.setCell ⟨b, 1, none⟩ (.int .i64 ((left : Int) - 1))).alloc (.cells #[.int .i64 (op : Nat), .int .i64 (a : Nat), .int .i64 (b2 : Nat), .string nm, .string at_, .int .u64 v1, .int .u64 v2] 67)).heap.size ((w.setCell ⟨b, 1, none⟩ (.int .i64 ((left : Int) - 1))).alloc (.cells #[.int .i64 (op : Nat), .int .i64 (a : Nat), .int .i64 (b2 : Nat), .string nm, .string at_, .int .u64 v1, .int .u64 v2] 67)) w1) := Lib.hid (((Below.refl _ _).drew).trans hb1); clear hb1)) | (go_at_call 67; refine (KP.out _ HB1.out).mono ?_; rintro e w2 ⟨rfl, h2, k2⟩; have H2 := Lib.hid h2; have HK2 := Lib.hid ((HKK.out _ HB1.out).trans k2); clear h2 k2))
    all_goals
      go_wp2_with fail
      go_end0
      exact ⟨rfl, H2.out, HK2.out⟩
end Go.Proofs.YtmdifoclojogpaaGreatDoor
