/- Layer 7: strings.Builder within a struct, the struct's other cells kept. -/
import Derived.Test.YtmdifoclojogpaaGreatDoorLBld2
namespace Go.Proofs.YtmdifoclojogpaaGreatDoor
open Go.RowKit

/-- the other cells of the block that holds the builder -/
def Oth (b o : Nat) (w w' : World) : Prop := ∀ i, i ≠ o → i ≠ o + 1 → w'.cell? ⟨b, i, none⟩ = w.cell? ⟨b, i, none⟩
theorem Oth.trans {b o : Nat} {w w1 w2 : World} (h : Oth b o w w1) (k : Oth b o w1 w2) : Oth b o w w2 := fun i h1 h2 => (k i h1 h2).trans (h i h1 h2)
theorem BAt.appO {B b o n : Nat} {T : TypeId} {q : Value} {s : List UInt8} {W w' : World} {v : Value} (h : BAt B b o n T q s W) (hv : W.cell? ⟨b, o + 1, none⟩ = some v) (hg : W.grownBy w' v.ownBlock) (u : Value) :
    Oth b o W (w'.setCell ⟨b, o + 1, none⟩ u) := by
  obtain ⟨A, cap, c1, ho, hn, _⟩ := h.c1
  obtain rfl : v = .slice A s.length cap := by rw [hv] at c1; injection c1
  have hkeep := hg.block b (shape_lt h.sh) (fun e => hn e.symm)
  intro i h1 h2
  rw [World.cell?_setCell_other _ _ _ _ (by intro e; injection e with _ e; omega), World.cell?_of_block (w := W) (a := ⟨b, i, none⟩) hkeep]
set_option maxRecDepth 100000 in
set_option maxHeartbeats 4000000 in
theorem fb_check {B b o n : Nat} {T : TypeId} {s : List UInt8} {w : World} (h : BIs B b o n T s w) (hl : liesAt Tryz.prog Tryz.prog.depth T (n / Tryz.prog.cellsOf T) o 98 1 = true) :
    Calls Tryz.prog 90 #[.pointer (some ⟨b, o, none⟩)] w fun e w' => e = .returned (.tuple #[]) ∧ BAt B b o n T (.pointer (some ⟨b, o, none⟩)) s w' ∧ BKp B b w w' ∧ w'.heap.size = w.heap.size ∧ Oth b o w w' := by
  obtain ⟨i0, hi0⟩ : ∃ i, Tryz.prog.info? 98 = some i := Option.isSome_iff_exists.1 (by kernel_rfl)
  have hne := Lib.run_neq_ptr_same (P := Tryz.prog) (tp := 96) (te := 98) (j := i0)
  have hneq : ∀ W : World, (binOp .neq 96 (.pointer (some ⟨b, o, none⟩)) (.pointer (some ⟨b, o, none⟩))).run Tryz.prog W = .ok (.bool false) W := fun W => hne W ⟨b, o, none⟩ Tryz.underlying96 hi0
  clear hne
  rcases h with h | h
  · have c0 := h.c0
    have f0 := h.fr o
    have hj : i0.size ≠ 0 := by
      have : (Tryz.prog.info? 98).map (·.size) = some 2 := by kernel_rfl
      rw [hi0] at this; simp at this; omega
    have hc1 : (convert 96 219 (.pointer (some ⟨b, o, none⟩))).run Tryz.prog w = .ok (.pointer (some ⟨b, o, none⟩)) w :=
      Lib.run_to_unsafe w ⟨b, o, none⟩ Tryz.underlying96 Tryz.underlying219 hi0 hj h.sh (by have := h.on; show o < n; omega)
    have hc2 : (convert 219 96 (.pointer (some ⟨b, o, none⟩))).run Tryz.prog w = .ok (.pointer (some ⟨b, o, none⟩)) w :=
      Lib.run_from_unsafe w ⟨b, o, none⟩ Tryz.underlying219 Tryz.underlying96 hi0 h.sh hl
    have hno := no_esc (.pointer (some ⟨b, o, none⟩))
    have hu := h.used (.pointer (some ⟨b, o, none⟩))
    have cu := hu.c0
    have HU := Lib.hid hu
    have HOT : Hid (Oth b o w (w.setCell ⟨b, o, none⟩ (.pointer (some ⟨b, o, none⟩)))) := Lib.hid fun i h1 h2 => World.cell?_setCell_other _ _ _ _ (by intro e; injection e with _ e; omega)
    have HK : Hid (BKp B b w (w.setCell ⟨b, o, none⟩ (.pointer (some ⟨b, o, none⟩)))) := Lib.hid ⟨(Below.refl _ _).setCell (p := ⟨b, o, none⟩) h.hB _, (Lib.OthersKept.refl _ _ _).setCell ⟨b, o, none⟩ rfl _⟩
    clear hu h hi0 hj
    go_enter Tryz.func90, Tryz.ntmps90
    go_wp2
    go_end0
    exact ⟨rfl, HU.out, HK.out, World.size_setCell _ _ _, HOT.out⟩
  · have c0 := h.c0
    have HU := Lib.hid h
    clear h hi0
    go_enter Tryz.func90, Tryz.ntmps90
    go_wp2
    go_end0
    exact ⟨rfl, HU.out, BKp.refl _ _ _, rfl, fun _ _ _ => rfl⟩
set_option maxRecDepth 100000 in
set_option maxHeartbeats 4000000 in
theorem fb_string {B b o n : Nat} {T : TypeId} {s : List UInt8} {w : World} (h : BIs B b o n T s w) (hl : liesAt Tryz.prog Tryz.prog.depth T (n / Tryz.prog.cellsOf T) o 98 1 = true) (hT : T ≠ 5) (x : ByteArray) (hx : x.size ≤ 100000000) (hs : s.length ≤ 100000000) :
    Calls Tryz.prog 67 #[.pointer (some ⟨b, o, none⟩), .string x] w fun e w' => e = .returned (.tuple #[.int .i64 x.size, .nilIface]) ∧ BIs B b o n T (s ++ x.data.toList) w' ∧ BKp B b w w' ∧ Oth b o w w' := by
  have KC := Lib.hid (fb_check h hl)
  obtain ⟨i0, hi0, hz0, hy1, hy2⟩ := info_partsB
  have HI := Lib.hid hi0
  have HZ := Lib.hid hz0
  have HY1 := Lib.hid hy1
  have HY2 := Lib.hid hy2
  have HT := Lib.hid hT
  have HX := Lib.hid hx
  have HS := Lib.hid hs
  clear hi0 hz0 hy1 hy2 h hl hT hx hs
  go_enter Tryz.func67, Tryz.ntmps67
  go_wp2_with fail
  go_at_call 90
  refine KC.out.mono ?_
  rintro e w1 ⟨rfl, h1, k1, hz1, ho1⟩
  have h1o := h1
  obtain ⟨A, cap, c1, ho, hn, hz⟩ := h1o.c1
  have f1 := h1.fr (o + 1)
  have HOT := Lib.hid ho1
  have HH := Lib.hid h1
  have HK := Lib.hid k1
  have HO := Lib.hid ho
  have HZZ := Lib.hid hz
  have hBb := h1.hB
  have hlt := shape_lt h1.sh
  clear ho1 hz hn ho h1 h1o k1 KC hz1
  go_wp2_with (at_builtin; (refine Go.Lib.wpList_append_own_string _ rfl (.tmp 12) (.tmp 13) 22 9 rfl B 5 i0 Tryz.underlying22 Tryz.underlying9 HI.out HZ.out HY1.out HY2.out _ s.length _ rfl HO.out x rfl (by have := HS.out; have := HX.out; unfold maxLen; omega) (by have := HS.out; have := HX.out; omega) (by omega) ?_; intro v4 w4 hO4 hg4 hi4; have HI4 := Lib.hid hi4; clear hi4; obtain ⟨A4, cap4, rfl⟩ := own_form2 hO4; (have hlen : (s ++ x.data.toList).length = s.length + x.size := by rw [List.length_append, Array.length_toList]; rfl); (have hO5 : w4.ownsRow B 5 1 (.slice A4 (s ++ x.data.toList).length cap4) (s ++ x.data.toList).length (Lib.byteCells (s ++ x.data.toList)) := by (rw [Lib.byteCells_append, hlen]; exact hO4)); obtain ⟨hf1, hf2, c4, f4⟩ := HH.out.app HT.out c1 hO5 hg4 (fun e => by (have e2 := List.append_eq_nil_iff.1 e; obtain ⟨e3, e4⟩ := HZZ.out e2.1; subst e3 e4; have e5 := HI4.out.2 ⟨by (have := e2.1; subst this; rfl), by (have := e2.2; have h6 := congrArg List.length this; rw [Array.length_toList] at h6; exact h6)⟩; injection e5 with e6 e7 e8; exact ⟨e6, e8⟩)); rw [hlen] at hf1 hf2; (have HOF := Lib.hid (HH.out.appO c1 hg4 (.slice A4 (s.length + x.size) cap4))); have HF1 := Lib.hid hf1; have HF2 := Lib.hid hf2; clear hf1 hf2 hO4 hg4 hO5 hlen))
  refine bodyPost_ret (v := .tuple #[.int .i64 x.size, .nilIface]) (by simp [results, Tryz.results67, go_sem]) rfl ⟨rfl, .inr HF1.out, HK.out.trans HF2.out, HOT.out.trans HOF.out⟩
end Go.Proofs.YtmdifoclojogpaaGreatDoor
