/- strings.Builder in a variable, or in a field of one: copyCheck, WriteByte, WriteString, String. -/
import Derived.Test.YtmdifoclojogpaaGreatDoorJLW
import Derived.Lib.Builder
import Derived.Lib.AppendStr
import Derived.Lib.OthersKept
namespace Go.Proofs.YtmdifoclojogpaaGreatDoor
open Go.RowKit

/-- a builder in block b (of type T, n cells) at place o, that holds the bytes s -/
structure BAt (B b o n : Nat) (T : TypeId) (q : Value) (s : List UInt8) (w : World) : Prop where
  hB : B ≤ b
  sh : w.shape? b = some (T, n)
  on : o + 1 < n
  c0 : w.cell? ⟨b, o, none⟩ = some q
  c1 : ∃ A cap, w.cell? ⟨b, o + 1, none⟩ = some (.slice A s.length cap) ∧ w.ownsRow B 5 1 (.slice A s.length cap) s.length (Lib.byteCells s) ∧ (Value.slice A s.length cap).ownBlock ≠ some b ∧ (s = [] → A = none ∧ cap = 0)
  fr : ∀ i, w.frozen? ⟨b, i, none⟩ = false
/-- fresh or used -/
def BIs (B b o n : Nat) (T : TypeId) (s : List UInt8) (w : World) : Prop := BAt B b o n T (.pointer none) s w ∨ BAt B b o n T (.pointer (some ⟨b, o, none⟩)) s w
theorem shape_lt {w : World} {b : Nat} {x : TypeId × Nat} (h : w.shape? b = some x) : b < w.heap.size := by
  rcases Nat.lt_or_ge b w.heap.size with h' | h'
  · exact h'
  · unfold World.shape? at h; rw [Array.getElem?_eq_none h'] at h; cases h
theorem shape_set (w : World) (a : Addr) (v : Value) (b : Nat) : (w.setCell a v).shape? b = w.shape? b := by
  unfold World.shape? World.setCell
  simp only [Array.getElem?_modify]
  cases h : w.heap[b]? with
  | none => by_cases e : a.block = b <;> simp [e]
  | some o =>
    by_cases e : a.block = b
    · cases o <;> simp [e]
      split <;> simp
    · simp [e]
theorem shape_keep {w w' : World} {b : Nat} (h : w'.heap[b]? = w.heap[b]?) : w'.shape? b = w.shape? b := by unfold World.shape?; rw [h]
theorem BAt.kept {B b o n : Nat} {T : TypeId} {q : Value} {s : List UInt8} {w w' : World} (h : BAt B b o n T q s w) (hb : Below w.heap.size w w') : BAt B b o n T q s w' := by
  obtain ⟨A, cap, c1, ho, hn, hz⟩ := h.c1
  have hlt := shape_lt h.sh
  refine ⟨h.hB, by rw [shape_keep (hb.block b hlt)]; exact h.sh, h.on, ?_, ⟨A, cap, ?_, own_below2 ho hb, hn, hz⟩, fun i => ?_⟩
  · rw [hb.cell (p := ⟨b, o, none⟩) hlt]; exact h.c0
  · rw [hb.cell (p := ⟨b, o + 1, none⟩) hlt]; exact c1
  · rw [hb.frozen (p := ⟨b, i, none⟩) hlt]; exact h.fr i
theorem BIs.kept {B b o n : Nat} {T : TypeId} {s : List UInt8} {w w' : World} (h : BIs B b o n T s w) (hb : Below w.heap.size w w') : BIs B b o n T s w' := by
  rcases h with h | h
  · exact .inl (h.kept hb)
  · exact .inr (h.kept hb)
theorem own_setB {w : World} {B e sz n b i : Nat} {v u : Value} {l : List Value} (h : w.ownsRow B e sz v n l) (hb : v.ownBlock ≠ some b) : (w.setCell ⟨b, i, none⟩ u).ownsRow B e sz v n l :=
  World.ownsRow.kept h (grown_set w b i u) (by
    cases e : v.ownBlock with
    | none => exact .inl rfl
    | some k => exact .inr fun e2 => hb (by rw [e, e2]))
theorem BAt.used {B b o n : Nat} {T : TypeId} {q : Value} {s : List UInt8} {w : World} (h : BAt B b o n T q s w) (q2 : Value) : BAt B b o n T q2 s (w.setCell ⟨b, o, none⟩ q2) := by
  obtain ⟨A, cap, c1, ho, hn, hz⟩ := h.c1
  refine ⟨h.hB, by rw [shape_set]; exact h.sh, h.on, World.cell?_setCell_same' _ _ _ (by rw [h.c0]; rfl), ⟨A, cap, ?_, own_setB ho hn, hn, hz⟩, fun i => by rw [set_froz]; exact h.fr i⟩
  rw [World.cell?_setCell_other _ _ _ _ (by intro e; injection e with _ e; omega)]; exact c1
/-- what a writer leaves -/
structure BKp (B b : Nat) (w w' : World) : Prop where
  below : Below B w w'
  kept : Lib.OthersKept 5 (some b) w w'
theorem BKp.refl (B b : Nat) (w : World) : BKp B b w w := ⟨Below.refl _ _, Lib.OthersKept.refl _ _ _⟩
theorem BKp.trans {B b : Nat} {w w1 w2 : World} (h : BKp B b w w1) (k : BKp B b w1 w2) : BKp B b w w2 := ⟨h.below.trans k.below, h.kept.trans k.kept⟩
theorem BKp.of {B b : Nat} {w w1 : World} (h : Below w.heap.size w w1) (hB : B ≤ w.heap.size) : BKp B b w w1 :=
  ⟨h.mono hB, fun k _ hk _ _ => (h.block k (Array.getElem?_eq_some_iff.1 hk).1).trans hk⟩
theorem own_kindB {w : World} {B e sz n : Nat} {v : Value} {l : List Value} (h : w.ownsRow B e sz v n l) : ∀ g, v.ownBlock = some g → ∃ c fz, w.heap[g]? = some (.cells c e fz) := by
  intro g hg
  rcases h.2 with ⟨rfl, _⟩ | ⟨g', cap, cur, rfl, _, hgg, _⟩
  · simp [Value.ownBlock] at hg
  · simp [Value.ownBlock] at hg
    subst hg
    exact ⟨cur, (0, 0), hgg⟩
set_option maxRecDepth 100000 in
theorem no_esc (x : Value) (w : World) : (callFunc 108 #[x]).run Tryz.prog w = .ok (.value x) w := by kernel_rfl
set_option maxRecDepth 100000 in
set_option maxHeartbeats 4000000 in
theorem b_check {B b o n : Nat} {T : TypeId} {s : List UInt8} {w : World} (h : BIs B b o n T s w) (hl : liesAt Tryz.prog Tryz.prog.depth T (n / Tryz.prog.cellsOf T) o 98 1 = true) :
    Calls Tryz.prog 90 #[.pointer (some ⟨b, o, none⟩)] w fun e w' => e = .returned (.tuple #[]) ∧ BAt B b o n T (.pointer (some ⟨b, o, none⟩)) s w' ∧ BKp B b w w' ∧ w'.heap.size = w.heap.size := by
  obtain ⟨i0, hi0⟩ : ∃ i, Tryz.prog.info? 98 = some i := Option.isSome_iff_exists.1 (by kernel_rfl)
  have hne := Lib.run_neq_ptr_same (P := Tryz.prog) (tp := 96) (te := 98) (j := i0)
  have hneq : ∀ W : World, (binOp .neq 96 (.pointer (some ⟨b, o, none⟩)) (.pointer (some ⟨b, o, none⟩))).run Tryz.prog W = .ok (.bool false) W := fun W => hne W ⟨b, o, none⟩ Tryz.underlying96 hi0
  clear hne
  rcases h with h | h
  · have c0 := h.c0
    have f0 := h.fr o
    have hj : i0.size ≠ 0 := by
      have : (Tryz.prog.info? 98).map (·.size) = some 2 := by kernel_rfl
      rw [hi0] at this; simp at this; omega
    have hc1 : (convert 96 219 (.pointer (some ⟨b, o, none⟩))).run Tryz.prog w = .ok (.pointer (some ⟨b, o, none⟩)) w :=
      Lib.run_to_unsafe w ⟨b, o, none⟩ Tryz.underlying96 Tryz.underlying219 hi0 hj h.sh (by have := h.on; show o < n; omega)
    have hc2 : (convert 219 96 (.pointer (some ⟨b, o, none⟩))).run Tryz.prog w = .ok (.pointer (some ⟨b, o, none⟩)) w :=
      Lib.run_from_unsafe w ⟨b, o, none⟩ Tryz.underlying219 Tryz.underlying96 hi0 h.sh hl
    have hno := no_esc (.pointer (some ⟨b, o, none⟩))
    have hu := h.used (.pointer (some ⟨b, o, none⟩))
    have cu := hu.c0
    have HU := Lib.hid hu
    have HK : Hid (BKp B b w (w.setCell ⟨b, o, none⟩ (.pointer (some ⟨b, o, none⟩)))) := Lib.hid ⟨(Below.refl _ _).setCell (p := ⟨b, o, none⟩) h.hB _, (Lib.OthersKept.refl _ _ _).setCell ⟨b, o, none⟩ rfl _⟩
    clear hu h hi0 hj
    go_enter Tryz.func90, Tryz.ntmps90
    go_wp2
    go_end0
    exact ⟨rfl, HU.out, HK.out, World.size_setCell _ _ _⟩
  · have c0 := h.c0
    have HU := Lib.hid h
    clear h hi0
    go_enter Tryz.func90, Tryz.ntmps90
    go_wp2
    go_end0
    exact ⟨rfl, HU.out, BKp.refl _ _ _, rfl⟩
end Go.Proofs.YtmdifoclojogpaaGreatDoor
