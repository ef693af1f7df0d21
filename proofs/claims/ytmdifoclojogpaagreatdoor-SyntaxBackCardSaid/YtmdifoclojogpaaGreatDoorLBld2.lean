/- strings.Builder: WriteByte, WriteString, String. -/
import Derived.Test.YtmdifoclojogpaaGreatDoorLBld
import Derived.Lib.UnsafeStr
import Derived.OwnWalk
namespace Go.Proofs.YtmdifoclojogpaaGreatDoor
open Go.RowKit

theorem shape_cells {w : World} {b n : Nat} {T : TypeId} (h : w.shape? b = some (T, n)) : ∃ cs fr, w.heap[b]? = some (.cells cs T fr) ∧ cs.size = n := by
  unfold World.shape? at h
  cases hb : w.heap[b]? with
  | none => rw [hb] at h; cases h
  | some o =>
    rw [hb] at h
    cases o with
    | cells c e f => simp at h; obtain ⟨rfl, rfl⟩ := h; exact ⟨c, f, rfl, rfl⟩
    | _ => simp at h
/-- a longer row laid into the builder -/
theorem BAt.app {B b o n : Nat} {T : TypeId} {q : Value} {s s2 : List UInt8} {W w' : World} {v : Value} {A2 : Option Addr} {cap2 : Nat} (h : BAt B b o n T q s W) (hT : T ≠ 5) (hv : W.cell? ⟨b, o + 1, none⟩ = some v)
    (hO : w'.ownsRow B 5 1 (.slice A2 s2.length cap2) s2.length (Lib.byteCells s2)) (hg : W.grownBy w' v.ownBlock) (hz : s2 = [] → A2 = none ∧ cap2 = 0) :
    BAt B b o n T q s2 (w'.setCell ⟨b, o + 1, none⟩ (.slice A2 s2.length cap2)) ∧ BKp B b W (w'.setCell ⟨b, o + 1, none⟩ (.slice A2 s2.length cap2)) ∧ w'.cell? ⟨b, o + 1, none⟩ = some v ∧ w'.frozen? ⟨b, o + 1, none⟩ = false := by
  obtain ⟨A, cap, c1, ho, hn, _⟩ := h.c1
  obtain rfl : v = .slice A s.length cap := by rw [hv] at c1; injection c1
  have hlt := shape_lt h.sh
  have hne : ¬ some b = (Value.slice A s.length cap).ownBlock := fun e => hn e.symm
  have hkeep := hg.block b hlt hne
  obtain ⟨cs, fr, hcs, hsz⟩ := shape_cells h.sh
  have hcs2 : w'.heap[b]? = some (.cells cs T fr) := by rw [hkeep]; exact hcs
  have hn2 := Lib.ownBlock_ne hO hcs2 hT
  have hBW : B ≤ W.heap.size := by have := h.hB; omega
  refine ⟨⟨h.hB, by rw [shape_set, shape_keep hkeep]; exact h.sh, h.on, ?_, ⟨A2, cap2, ?_, own_setB hO hn2, hn2, hz⟩, fun i => ?_⟩, ⟨((Below.refl _ W).grown hg hBW (fun k hk => own_block_ge ho hk)).setCell (p := ⟨b, o + 1, none⟩) h.hB _, ((Lib.OthersKept.refl _ _ W).grown hg (fun k hk => own_kindB ho k hk)).setCell ⟨b, o + 1, none⟩ rfl _⟩, ?_, ?_⟩
  · rw [World.cell?_setCell_other _ _ _ _ (by intro e; injection e with _ e; omega), World.cell?_of_block (w := W) (a := ⟨b, o, none⟩) hkeep]; exact h.c0
  · rw [World.cell?_setCell_same' _ _ _ (by rw [World.cell?_of_block (w := W) (a := ⟨b, o + 1, none⟩) hkeep, c1]; rfl)]
  · rw [set_froz, World.frozen?_of_block (w := W) (a := ⟨b, i, none⟩) hkeep]; exact h.fr i
  · rw [World.cell?_of_block (w := W) (a := ⟨b, o + 1, none⟩) hkeep, c1]
  · rw [World.frozen?_of_block (w := W) (a := ⟨b, o + 1, none⟩) hkeep]; exact h.fr _
theorem info_u8b : (Tryz.prog.info? 5).map (fun i => (i.zero, i.size, i.bytes)) = some (some (.int .u8 0), 1, 1) := by kernel_rfl
theorem info_partsB : ∃ i, Tryz.prog.info? 5 = some i ∧ i.zero = some (.int .u8 0) ∧ i.size = 1 ∧ i.bytes = 1 := by
  obtain ⟨i, hi, hz⟩ := Option.map_eq_some_iff.1 info_u8b
  simp only [Prod.mk.injEq] at hz
  exact ⟨i, hi, hz.1, hz.2.1, hz.2.2⟩
set_option maxRecDepth 100000 in
set_option maxHeartbeats 4000000 in
theorem b_string {B b o n : Nat} {T : TypeId} {s : List UInt8} {w : World} (h : BIs B b o n T s w) (hl : liesAt Tryz.prog Tryz.prog.depth T (n / Tryz.prog.cellsOf T) o 98 1 = true) (hT : T ≠ 5) (x : ByteArray) (hx : x.size ≤ 100000000) (hs : s.length ≤ 100000000) :
    Calls Tryz.prog 67 #[.pointer (some ⟨b, o, none⟩), .string x] w fun e w' => e = .returned (.tuple #[.int .i64 x.size, .nilIface]) ∧ BIs B b o n T (s ++ x.data.toList) w' ∧ BKp B b w w' := by
  have KC := Lib.hid (b_check h hl)
  obtain ⟨i0, hi0, hz0, hy1, hy2⟩ := info_partsB
  have HI := Lib.hid hi0
  have HZ := Lib.hid hz0
  have HY1 := Lib.hid hy1
  have HY2 := Lib.hid hy2
  have HT := Lib.hid hT
  have HX := Lib.hid hx
  have HS := Lib.hid hs
  clear hi0 hz0 hy1 hy2 h hl hT hx hs
  go_enter Tryz.func67, Tryz.ntmps67
  go_wp2_with fail
  go_at_call 90
  refine KC.out.mono ?_
  rintro e w1 ⟨rfl, h1, k1, hz1⟩
  have h1o := h1
  obtain ⟨A, cap, c1, ho, hn, hz⟩ := h1o.c1
  have f1 := h1.fr (o + 1)
  have HH := Lib.hid h1
  have HK := Lib.hid k1
  have HO := Lib.hid ho
  have HZZ := Lib.hid hz
  have hBb := h1.hB
  have hlt := shape_lt h1.sh
  clear hz hn ho h1 h1o k1 KC hz1
  go_wp2_with (at_builtin; (refine Go.Lib.wpList_append_own_string _ rfl (.tmp 12) (.tmp 13) 22 9 rfl B 5 i0 Tryz.underlying22 Tryz.underlying9 HI.out HZ.out HY1.out HY2.out _ s.length _ rfl HO.out x rfl (by have := HS.out; have := HX.out; unfold maxLen; omega) (by have := HS.out; have := HX.out; omega) (by omega) ?_; intro v4 w4 hO4 hg4 hi4; have HI4 := Lib.hid hi4; clear hi4; obtain ⟨A4, cap4, rfl⟩ := own_form2 hO4; (have hlen : (s ++ x.data.toList).length = s.length + x.size := by rw [List.length_append, Array.length_toList]; rfl); (have hO5 : w4.ownsRow B 5 1 (.slice A4 (s ++ x.data.toList).length cap4) (s ++ x.data.toList).length (Lib.byteCells (s ++ x.data.toList)) := by (rw [Lib.byteCells_append, hlen]; exact hO4)); obtain ⟨hf1, hf2, c4, f4⟩ := HH.out.app HT.out c1 hO5 hg4 (fun e => by (have e2 := List.append_eq_nil_iff.1 e; obtain ⟨e3, e4⟩ := HZZ.out e2.1; subst e3 e4; have e5 := HI4.out.2 ⟨by (have := e2.1; subst this; rfl), by (have := e2.2; have h6 := congrArg List.length this; rw [Array.length_toList] at h6; exact h6)⟩; injection e5 with e6 e7 e8; exact ⟨e6, e8⟩)); rw [hlen] at hf1 hf2; have HF1 := Lib.hid hf1; have HF2 := Lib.hid hf2; clear hf1 hf2 hO4 hg4 hO5 hlen))
  refine bodyPost_ret (v := .tuple #[.int .i64 x.size, .nilIface]) (by simp [results, Tryz.results67, go_sem]) rfl ⟨rfl, .inr HF1.out, HK.out.trans HF2.out⟩
set_option maxRecDepth 100000 in
set_option maxHeartbeats 4000000 in
theorem b_text {B b o n : Nat} {T : TypeId} {s : List UInt8} {w : World} (h : BIs B b o n T s w) (hs : s.length ≤ 100000000) :
    Calls Tryz.prog 36 #[.pointer (some ⟨b, o, none⟩)] w fun e w' => e = .returned (.string ⟨s.toArray⟩) ∧ Below B w w' := by
  obtain ⟨q, h⟩ : ∃ q, BAt B b o n T q s w := by
    rcases h with h | h
    · exact ⟨_, h⟩
    · exact ⟨_, h⟩
  obtain ⟨A, cap, c1, ho, hn, hz⟩ := h.c1
  have c2 : w.drew.cell? ⟨b, o + 1, none⟩ = some (.slice A s.length cap) := c1
  by_cases h0 : s = []
  · obtain ⟨rfl, rfl⟩ := hz h0
    subst h0
    have hUS : ∀ (W : World) (q : Option Addr), (Builtin.unsafeString_ #[164, 3] 9 #[.pointer q, .int .i64 0]).run Tryz.prog W = .ok (.string .empty) W := fun W q => Lib.run_unsafeString_none W _ _ _ q
    have hSD : ∀ W : World, (Builtin.unsafeSliceData_ #[22] 164 #[.slice none 0 0]).run Tryz.prog W = .ok (.pointer none) W := fun _ => rfl
    clear h ho hn hs
    go_enter Tryz.func36, Tryz.ntmps36
    go_wp2
    go_region
    all_goals (go_wp2; go_ret; exact ⟨rfl, Below.drew (Below.refl B w)⟩)
  · have hp : 0 < s.length := List.length_pos_iff.2 h0
    obtain ⟨g, cap', hv, hge, hlg⟩ := ho.form hp
    injection hv with e1 e2 e3
    subst e1
    clear e2 e3
    have hle := own_le ho
    have hcells := ho.cellAt
    obtain ⟨cs0, fz, hgk⟩ := own_kindB ho g rfl
    have hSD : (Builtin.unsafeSliceData_ #[22] 164 #[.slice (some ⟨g, 0, none⟩) s.length cap]).run Tryz.prog w.drew = .ok (.pointer (some ⟨g, 0, none⟩)) w.drew := Lib.run_unsafeSliceData_row _ _ _ _ _ _ (by omega)
    have hco : Tryz.prog.cellsOf 5 = 1 := by kernel_rfl
    have hUS : (Builtin.unsafeString_ #[164, 3] 9 #[.pointer (some ⟨g, 0, none⟩), .int .i64 s.length]).run Tryz.prog w.drew = .ok (.string ⟨s.toArray⟩) (w.drew.freeze ⟨g, 0, none⟩ s.length) := by
      refine Lib.run_unsafeString_row w.drew 164 3 9 5 Tryz.underlying164 hco g cs0.size (by have hg' : w.drew.heap[g]? = some (.cells cs0 5 fz) := hgk; simp [World.shape?, hg']) s h0 ?_ (by omega) ?_
      · have := hcells (s.length - 1) (by omega)
        have hlt2 : (s.length - 1) < cs0.size := by
          rw [List.getElem?_eq_getElem (by rw [Lib.byteCells_length]; omega)] at this
          simp only [World.cell?, hgk] at this
          exact (Array.getElem?_eq_some_iff.1 this).1
        omega
      · intro j x hx
        exact ho.cells (g := g) rfl j (.int .u8 x.toNat) (by simp [Lib.byteCells, hx])
    clear hcells ho hn hs hgk h
    go_enter Tryz.func36, Tryz.ntmps36
    go_wp2
    go_region
    all_goals (go_wp2; go_ret; exact ⟨rfl, Lib.below_freeze (Below.drew (Below.refl B w)) (p := ⟨g, 0, none⟩) hge _⟩)
end Go.Proofs.YtmdifoclojogpaaGreatDoor
