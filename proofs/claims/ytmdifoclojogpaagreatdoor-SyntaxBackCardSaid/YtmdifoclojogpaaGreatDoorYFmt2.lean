/- Layer 7: the program's writer. -/
import Derived.Test.YtmdifoclojogpaaGreatDoorYFmt1
import Derived.Test.YtmdifoclojogpaaGreatDoorFBld
namespace Go.Proofs.YtmdifoclojogpaaGreatDoor
open Go.RowKit

theorem BIs.ge {B b o n : Nat} {T : TypeId} {s : List UInt8} {w : World} (h : BIs B b o n T s w) : B ≤ b ∧ b < w.heap.size ∧ ∀ i, w.frozen? ⟨b, i, none⟩ = false := by
  rcases h with h | h
  · exact ⟨h.hB, shape_lt h.sh, h.fr⟩
  · exact ⟨h.hB, shape_lt h.sh, h.fr⟩
theorem BAt.set1 {B b o n : Nat} {T : TypeId} {q : Value} {s : List UInt8} {w : World} (h : BAt B b o n T q s w) (i : Nat) (h1 : i ≠ o) (h2 : i ≠ o + 1) (v : Value) : BAt B b o n T q s (w.setCell ⟨b, i, none⟩ v) := by
  obtain ⟨A, cap, c1, ho, hn, hz⟩ := h.c1
  refine ⟨h.hB, by rw [shape_set]; exact h.sh, h.on, ?_, ⟨A, cap, ?_, own_setB ho hn, hn, hz⟩, fun i => by rw [set_froz]; exact h.fr i⟩
  · rw [World.cell?_setCell_other _ _ _ _ (by intro e; injection e with _ e; omega)]; exact h.c0
  · rw [World.cell?_setCell_other _ _ _ _ (by intro e; injection e with _ e; omega)]; exact c1
/-- the writer in block b: the tree o, what is left, the text so far -/
structure WrAt (B b : Nat) (A : Option Addr) (len cap : Nat) (o : List Nd) (left : Nat) (s : List UInt8) (w : World) : Prop where
  lt : 1 < B
  ln : o.length = len
  bd : BIs B b 2 4 100 s w
  c0 : w.cell? ⟨b, 0, none⟩ = some (.slice A len cap)
  c1 : w.cell? ⟨b, 1, none⟩ = some (.int .i64 left)
  sy : SymY w
  nd : ∃ g, A = some ⟨g, 0, none⟩ ∧ g < B ∧ ∀ k (hk : k < o.length) j, j < 7 → w.cell? ⟨g, k * 7 + j, none⟩ = (ncell (o[k]'hk))[j]?
theorem WrAt.call {B b len cap left : Nat} {A : Option Addr} {o : List Nd} {s : List UInt8} {w w' : World} (h : WrAt B b A len cap o left s w) (hb : Below w.heap.size w w') : WrAt B b A len cap o left s w' := by
  obtain ⟨g, e, hg, q⟩ := h.nd
  obtain ⟨h1, h2, _⟩ := h.bd.ge
  refine ⟨h.lt, h.ln, h.bd.kept hb, ?_, ?_, h.sy.below hb (by have := h.lt; omega), ⟨g, e, hg, fun k hk j hj => ?_⟩⟩
  · rw [hb.cell (p := ⟨b, 0, none⟩) h2]; exact h.c0
  · rw [hb.cell (p := ⟨b, 1, none⟩) h2]; exact h.c1
  · rw [hb.cell (p := ⟨g, _, none⟩) (by show g < _; omega)]; exact q k hk j hj
theorem WrAt.setL {B b len cap left : Nat} {A : Option Addr} {o : List Nd} {s : List UInt8} {w : World} (h : WrAt B b A len cap o left s w) (l2 : Nat) : WrAt B b A len cap o l2 s (w.setCell ⟨b, 1, none⟩ (.int .i64 l2)) := by
  obtain ⟨g, e, hg, q⟩ := h.nd
  obtain ⟨h1, h2, _⟩ := h.bd.ge
  have hb := (Below.refl b w).setCell (p := ⟨b, 1, none⟩) (Nat.le_refl _) (.int .i64 l2)
  refine ⟨h.lt, h.ln, ?_, ?_, ?_, h.sy.below hb (by have := h.lt; omega), ⟨g, e, hg, fun k hk j hj => ?_⟩⟩
  · rcases h.bd with hh | hh
    · exact .inl (hh.set1 1 (by decide) (by decide) _)
    · exact .inr (hh.set1 1 (by decide) (by decide) _)
  · rw [World.cell?_setCell_other _ _ _ _ (by intro e; injection e with _ e; omega)]; exact h.c0
  · rw [World.cell?_setCell_same' _ _ _ (by rw [h.c1]; rfl)]
  · rw [hb.cell (p := ⟨g, _, none⟩) (by show g < _; omega)]; exact q k hk j hj
theorem WrAt.wrote {B b len cap left : Nat} {A : Option Addr} {o : List Nd} {s s2 : List UInt8} {w w' : World} (h : WrAt B b A len cap o left s w) (hi : BIs B b 2 4 100 s2 w') (hk : BKp B b w w') (ho : Oth b 2 w w') : WrAt B b A len cap o left s2 w' := by
  obtain ⟨g, e, hg, q⟩ := h.nd
  refine ⟨h.lt, h.ln, hi, by rw [ho 0 (by decide) (by decide)]; exact h.c0, by rw [ho 1 (by decide) (by decide)]; exact h.c1, h.sy.below hk.below h.lt, ⟨g, e, hg, fun k hk' j hj => ?_⟩⟩
  rw [hk.below.cell (p := ⟨g, _, none⟩) hg]; exact q k hk' j hj
def RetW (B b len cap : Nat) (A : Option Addr) (o : List Nd) (left : Nat) (s : List UInt8) (v : Value) (w : World) (e : Ending) (w' : World) : Prop := e = .returned v ∧ WrAt B b A len cap o left s w' ∧ BKp B b w w'
set_option maxRecDepth 100000 in
theorem lies_wr : liesAt Tryz.prog Tryz.prog.depth 100 (4 / Tryz.prog.cellsOf 100) 2 98 1 = true := by kernel_rfl
theorem fy_put {B b len cap left : Nat} {A : Option Addr} {o : List Nd} {s : List UInt8} {w : World} (h : WrAt B b A len cap o left s w) (x : ByteArray) (hx : x.size ≤ 100000000) (hs : s.length ≤ 100000000) :
    Calls Tryz.prog 67 #[.pointer (some ⟨b, 2, none⟩), .string x] w (RetW B b len cap A o left (s ++ bl x) (.tuple #[.int .i64 x.size, .nilIface]) w) := by
  refine (fb_string h.bd lies_wr (by decide) x hx hs).mono ?_
  rintro e w' ⟨rfl, h1, h2, h3⟩
  exact ⟨rfl, h.wrote h1 h2 h3, h2⟩
/-- node i writes T, of m nodes -/
def FmtC (B b len cap : Nat) (A : Option Addr) (o : List Nd) (i m : Nat) (T : List UInt8) : Prop := ∀ (w : World) (left : Nat) (s : List UInt8), WrAt B b A len cap o left s w → m ≤ left → left ≤ 1000 → s.length + T.length ≤ 90000000 → Calls Tryz.prog 35 #[.pointer (some ⟨b, 0, none⟩), .int .i64 (i : Nat)] w (RetW B b len cap A o (left - m) (s ++ T) (.tuple #[]) w)
def OpC (B b len cap : Nat) (A : Option Addr) (o : List Nd) (i m : Nat) (T : List UInt8) : Prop := ∀ (w : World) (left : Nat) (s : List UInt8), WrAt B b A len cap o left s w → m ≤ left → left ≤ 1000 → s.length + T.length ≤ 90000000 → Calls Tryz.prog 69 #[.pointer (some ⟨b, 0, none⟩), .int .i64 (i : Nat)] w (RetW B b len cap A o (left - m) (s ++ T) (.tuple #[]) w)
theorem bl_40 : bl ⟨#[40]⟩ = [40] := rfl
theorem bl_41 : bl ⟨#[41]⟩ = [41] := rfl
set_option maxRecDepth 100000 in
set_option maxHeartbeats 4000000 in
theorem fy_operand {B b len cap : Nat} {A : Option Addr} {o : List Nd} {i m : Nat} {T : List UInt8} (h : FmtC B b len cap A o i m T) : OpC B b len cap A o i m (40 :: (T ++ [41])) := by
  intro w left s hw hm hl hs
  simp only [List.length_cons, List.length_append, List.length_nil] at hs
  obtain ⟨j, hj⟩ : ∃ j : Int, j = (i : Nat) := ⟨_, rfl⟩
  have KA := Lib.hid (fy_put hw ⟨#[40]⟩ (by decide) (by omega))
  have KB : Hid (∀ w1, WrAt B b A len cap o left (s ++ [40]) w1 → Calls Tryz.prog 35 #[.pointer (some ⟨b, 0, none⟩), .int .i64 j] w1 (RetW B b len cap A o (left - m) (s ++ [40] ++ T) (.tuple #[]) w1)) := Lib.hid fun w1 h1 => by rw [hj]; exact h w1 left _ h1 hm hl (by simp; omega)
  have KC : Hid (∀ w1, WrAt B b A len cap o (left - m) (s ++ [40] ++ T) w1 → Calls Tryz.prog 67 #[.pointer (some ⟨b, 2, none⟩), .string ⟨#[41]⟩] w1 (RetW B b len cap A o (left - m) (s ++ [40] ++ T ++ [41]) (.tuple #[.int .i64 1, .nilIface]) w1)) := Lib.hid fun w1 h1 => fy_put h1 ⟨#[41]⟩ (by decide) (by simp; omega)
  rw [← hj]
  have HE : Hid (s ++ 40 :: (T ++ [41]) = s ++ [40] ++ T ++ [41]) := Lib.hid (by simp)
  rw [HE.out]
  clear h hw hm hl hs hj HE
  go_enter Tryz.func69, Tryz.ntmps69
  go_wp2_with fail
  go_at_call 67
  refine KA.out.mono ?_
  rintro e w1 ⟨rfl, h1, k1⟩
  have H1 := Lib.hid h1
  have HK1 := Lib.hid k1
  clear h1 k1 KA
  go_wp2_with fail
  go_at_call 35
  refine (KB.out w1 H1.out).mono ?_
  rintro e w2 ⟨rfl, h2, k2⟩
  have H2 := Lib.hid h2
  have HK2 := Lib.hid (HK1.out.trans k2)
  clear h2 k2 KB HK1 H1
  go_wp2_with fail
  go_at_call 67
  refine (KC.out w2 H2.out).mono ?_
  rintro e w3 ⟨rfl, h3, k3⟩
  have H3 := Lib.hid h3
  have HK3 := Lib.hid (HK2.out.trans k3)
  clear h3 k3 KC HK2 H2
  go_wp2_with fail
  go_end0
  exact ⟨rfl, H3.out, HK3.out⟩
end Go.Proofs.YtmdifoclojogpaaGreatDoor
