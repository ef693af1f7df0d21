/- SchemaLimits: its walk. -/
import Derived.Test.YtljmiickhkkceaaSLongWalk
import Derived.Test.YtljmiickhkkceaaSZero
namespace Go.Proofs.Ytljmiickhkkceaa
open Go.RowKit

theorem info_fld : (Try.prog.info? 46).map (fun i => (i.zero, i.size, i.bytes)) = some (some (.agg #[.int .i64 0, .string ⟨#[]⟩, .int .i64 0]), 3, 32) := by kernel_rfl
theorem info_stg : (Try.prog.info? 48).map (fun i => (i.zero, i.size, i.bytes)) = some (some (.agg #[.int .i64 0, .int .i64 0]), 2, 16) := by kernel_rfl
def fldD (i : Nat) : FieldD := ⟨i, [], 1⟩
def stgD (i : Nat) : StageD := ⟨i, 0⟩
def encFld (x : FieldD) : List Value := [.int .i64 x.id, .string (strL x.name), .int .i64 x.bits]
def encStg (x : StageD) : List Value := [.int .i64 x.table, .int .i64 x.header]
theorem one_fld (x : FieldD) : ∀ u ∈ encFld x, u.oneCell' = true := by
  intro u hu
  simp only [encFld, List.mem_cons, List.not_mem_nil, or_false] at hu
  rcases hu with rfl | rfl | rfl <;> rfl
theorem one_stg (x : StageD) : ∀ u ∈ encStg x, u.oneCell' = true := by
  intro u hu
  simp only [encStg, List.mem_cons, List.not_mem_nil, or_false] at hu
  rcases hu with rfl | rfl <;> rfl
def aD (n : Nat) : SchemaD := ⟨(List.range n).map fldD, [], [], [], [], [], [], [], 0, 0⟩
def bD (n : Nat) : SchemaD := ⟨[], [], [], [], [], (List.range n).map stgD, [], [], 0, 0⟩
def cD (n : Nat) : SchemaD := ⟨[], [], [], [], [⟨0, [], [], [], 0, [], 0, List.replicate n 120⟩], [], [], [], 0, 0⟩
def want (k : Nat) : Int := if k = 2 then 3 else 0
set_option maxRecDepth 100000 in
theorem want_a : ∀ k, k < 3 → finE (eSchema wayP (aD (31 + k)) ws0) = want k := by decide +kernel
set_option maxRecDepth 100000 in
theorem want_b : ∀ k, k < 3 → finE (eSchema wayP (bD (11 + k)) ws0) = want k := by decide +kernel
set_option maxRecDepth 100000 in
theorem want_c : ∀ k, k < 3 → finE (eSchema wayP (cD (399 + k)) ws0) = want k := by decide +kernel
/-- A schema in block S of which only the slice in cell j may have elements. -/
structure OneAt2 (S j : Nat) (v : Value) (W : World) : Prop where
  c : ∀ i, i < 8 → i ≠ j → W.cell? ⟨S, i, none⟩ = some (.slice none 0 0)
  cj : W.cell? ⟨S, j, none⟩ = some v
  c8 : W.cell? ⟨S, 8, none⟩ = some (.int .i64 0)
  c9 : W.cell? ⟨S, 9, none⟩ = some (.int .i64 0)
  f : ∀ i, W.frozen? ⟨S, i, none⟩ = false
  lt : S < W.heap.size
section
variable {S j : Nat} {v v' : Value} {W W' : World}
theorem OneAt2.far (h : OneAt2 S j v W) (hc : ∀ i, W'.cell? ⟨S, i, none⟩ = W.cell? ⟨S, i, none⟩) (hf : ∀ i, W'.frozen? ⟨S, i, none⟩ = W.frozen? ⟨S, i, none⟩) (hs : W.heap.size ≤ W'.heap.size) : OneAt2 S j v W' :=
  ⟨fun i a b => (hc i).trans (h.c i a b), (hc j).trans h.cj, (hc 8).trans h.c8, (hc 9).trans h.c9, fun i => (hf i).trans (h.f i), Nat.lt_of_lt_of_le h.lt hs⟩
theorem OneAt2.grown {row : Option Nat} (h : OneAt2 S j v W) (hg : W.grownBy W' row) (hr : some S ≠ row) : OneAt2 S j v W' := h.far (fun _ => cell_kept hg h.lt hr) (fun _ => frozen_kept hg h.lt hr) hg.size
theorem OneAt2.set (h : OneAt2 S j v W) (hj : j < 8) (v' : Value) : OneAt2 S j v' (W.setCell ⟨S, j, none⟩ v') :=
  ⟨fun i a b => (set_other _ _ _ _ _ (Ne.symm b)).trans (h.c i a b), set_same _ h.cj, (set_other _ _ _ _ _ (by omega)).trans h.c8, (set_other _ _ _ _ _ (by omega)).trans h.c9, fun i => (set_froz _ _ _ _ _).trans (h.f i), by simp [World.setCell]; exact h.lt⟩
end
/-- The schemas in blocks A and A + 1: fields and stages. -/
structure LimAt (w0 : World) (A p q : Nat) (va vb : Value) (W : World) : Prop where
  a : OneAt2 A 0 va W
  b : OneAt2 (A + 1) 5 vb W
  ra : W.ownsRow (A + 2) 46 3 va p (flat encFld ((List.range p).map fldD))
  rb : W.ownsRow (A + 2) 48 2 vb q (flat encStg ((List.range q).map stgD))
  below : Below A w0 W
theorem own_setG {w : World} {S B e sz n i : Nat} {v u : Value} {l : List Value} (h : w.ownsRow B e sz v n l) (hS : S < B) : (w.setCell ⟨S, i, none⟩ u).ownsRow B e sz v n l :=
  World.ownsRow.kept h (grown_set w S i u) (by
    cases e : v.ownBlock with
    | none => exact .inl rfl
    | some k => exact .inr fun e2 => by have := (World.ownsRow.lt h k e).1; injection e2 with e2; omega)
section
variable {w0 : World} {A p q : Nat} {va vb : Value} {W w1 : World} {o : Obj} {v' : Value}
theorem LimAt.fld (h : LimAt w0 A p q va vb W) (hO : w1.ownsRow (A + 2) 46 3 v' (p + 1) (flat encFld ((List.range p).map fldD) ++ encFld (fldD p))) (hg : (W.alloc o).grownBy w1 va.ownBlock) :
    LimAt w0 A (p + 1) q v' vb (w1.setCell ⟨A, 0, none⟩ v') ∧ w1.cell? ⟨A, 0, none⟩ = some va ∧ w1.frozen? ⟨A, 0, none⟩ = false := by
  have hlt := h.b.lt
  have hr : ∀ k, k < A + 2 → some k ≠ va.ownBlock := fun k hk e => by have := (World.ownsRow.lt h.ra k e.symm).1; omega
  have hga := (grown_alloc W o va.ownBlock).trans hg
  have ha := h.a.grown hga (hr _ (by omega))
  have hb := h.b.grown hga (hr _ (by omega))
  have e : (List.range (p + 1)).map fldD = (List.range p).map fldD ++ [fldD p] := by simp [List.range_succ]
  have hgs := grown_set w1 A 0 v'
  exact ⟨⟨ha.set (by decide) v', hb.grown hgs (fun e => by injection e with e; omega), by rw [e, flat_snoc]; exact own_setG hO (by omega),
    own_setG (World.ownsRow.kept (World.ownsRow.alloc h.rb o) hg (own_apart (by decide) h.rb h.ra)) (by omega),
    ((h.below.alloc (by omega) o).grown hg (by simp; omega) (fun k e => by have := (World.ownsRow.lt h.ra k e).1; omega)).setCell (Nat.le_refl _) _⟩, ha.cj, ha.f 0⟩
theorem LimAt.stg (h : LimAt w0 A p q va vb W) (hO : w1.ownsRow (A + 2) 48 2 v' (q + 1) (flat encStg ((List.range q).map stgD) ++ encStg (stgD q))) (hg : (W.alloc o).grownBy w1 vb.ownBlock) :
    LimAt w0 A p (q + 1) va v' (w1.setCell ⟨A + 1, 5, none⟩ v') ∧ w1.cell? ⟨A + 1, 5, none⟩ = some vb ∧ w1.frozen? ⟨A + 1, 5, none⟩ = false := by
  have hlt := h.b.lt
  have hr : ∀ k, k < A + 2 → some k ≠ vb.ownBlock := fun k hk e => by have := (World.ownsRow.lt h.rb k e.symm).1; omega
  have hga := (grown_alloc W o vb.ownBlock).trans hg
  have ha := h.a.grown hga (hr _ (by omega))
  have hb := h.b.grown hga (hr _ (by omega))
  have e : (List.range (q + 1)).map stgD = (List.range q).map stgD ++ [stgD q] := by simp [List.range_succ]
  have hgs := grown_set w1 (A + 1) 5 v'
  exact ⟨⟨ha.grown hgs (fun e => by injection e with e; omega), hb.set (by decide) v',
    own_setG (World.ownsRow.kept (World.ownsRow.alloc h.ra o) hg (own_apart (by decide) h.ra h.rb)) (by omega), by rw [e, flat_snoc]; exact own_setG hO (by omega),
    ((h.below.alloc (by omega) o).grown hg (by simp; omega) (fun k e => by have := (World.ownsRow.lt h.rb k e).1; omega)).setCell (by show A ≤ A + 1; omega) _⟩, hb.cj, hb.f 5⟩
theorem i64_0 : I64 0 := by unfold I64; decide
theorem i64_1 : I64 1 := by unfold I64; decide
theorem i64_nat {i : Nat} (h : i ≤ 1000) : I64 (i : Int) := ⟨by omega, by omega⟩
theorem txt_nil : Txt [] := ⟨Small.nil, by simp⟩
theorem LimAt.sa (h : LimAt w0 A p q va vb W) (hp : p ≤ 1000) : SchemaV W.heap.size W [va, .slice none 0 0, .slice none 0 0, .slice none 0 0, .slice none 0 0, .slice none 0 0, .slice none 0 0, .slice none 0 0, .int .i64 0, .int .i64 0] (aD p) := by
  refine ⟨_, _, _, _, _, _, _, _, rfl, ?_, row_nil _ _ _ _, row_nil _ _ _ _, row_nil _ _ _ _, row_nil _ _ _ _, row_nil _ _ _ _, row_nil _ _ _ _, row_nil _ _ _ _, i64_0, i64_0⟩
  refine rowV_of_own (enc := encFld) (fun _ => rfl) (Nat.le_refl _) (fun x hx => ?_) (by have := h.ra; simpa [aD] using this)
  obtain ⟨i, hi, rfl⟩ := List.mem_map.1 hx
  exact ⟨rfl, i64_nat (by have := List.mem_range.1 hi; omega), txt_nil, i64_1⟩
theorem LimAt.sb (h : LimAt w0 A p q va vb W) (hq : q ≤ 1000) : SchemaV W.heap.size W [.slice none 0 0, .slice none 0 0, .slice none 0 0, .slice none 0 0, .slice none 0 0, vb, .slice none 0 0, .slice none 0 0, .int .i64 0, .int .i64 0] (bD q) := by
  refine ⟨_, _, _, _, _, _, _, _, rfl, row_nil _ _ _ _, row_nil _ _ _ _, row_nil _ _ _ _, row_nil _ _ _ _, row_nil _ _ _ _, ?_, row_nil _ _ _ _, row_nil _ _ _ _, i64_0, i64_0⟩
  refine rowV_of_own (enc := encStg) (fun _ => rfl) (Nat.le_refl _) (fun x hx => ?_) (by have := h.rb; simpa [bD] using this)
  obtain ⟨i, hi, rfl⟩ := List.mem_map.1 hx
  exact ⟨rfl, i64_nat (by have := List.mem_range.1 hi; omega), i64_0⟩
end
theorem nils (i : Nat) (hi : i < 8) : (#[Value.slice none 0 0, .slice none 0 0, .slice none 0 0, .slice none 0 0, .slice none 0 0, .slice none 0 0, .slice none 0 0, .slice none 0 0, .int .i64 0, .int .i64 0] : Array Value)[i]? = some (.slice none 0 0) := by
  match i, hi with
  | 0, _ => rfl
  | 1, _ => rfl
  | 2, _ => rfl
  | 3, _ => rfl
  | 4, _ => rfl
  | 5, _ => rfl
  | 6, _ => rfl
  | 7, _ => rfl
set_option maxRecDepth 100000 in
set_option maxHeartbeats 8000000 in
theorem lim_any (n sz : Int) (w : World) (hn : I64 n) (hs : I64 sz) : Calls Try.prog 4 #[.int .i64 n, .int .i64 sz] w fun e w' => e = .returned (.bool true) ∧ Below w.heap.size w w' := by
  obtain ⟨k, hk⟩ : ∃ k : Nat, (k : Int) = n % 3 := ⟨(n % 3).toNat, by omega⟩
  have hk3 : k < 3 := by omega
  have HK := Lib.hid hk
  clear hk
  obtain ⟨i0, hi0, hz0, hy1, hy2⟩ := info_parts info_fld
  obtain ⟨i1, hi1, hz1, hy3, hy4⟩ := info_parts info_stg
  go_enter Try.func4, Try.ntmps4
  go_wp2_with fail
  refine (mod_any n 3 hn (by decide) (by decide) _).mono ?_
  rw [← HK.out]
  rintro e w' ⟨rfl, rfl⟩
  have hL0 : LimAt w w.heap.size 0 0 (.slice none 0 0) (.slice none 0 0) ((w.alloc (.cells #[.slice none 0 0, .slice none 0 0, .slice none 0 0, .slice none 0 0, .slice none 0 0, .slice none 0 0, .slice none 0 0, .slice none 0 0, .int .i64 0, .int .i64 0] 31)).alloc (.cells #[.slice none 0 0, .slice none 0 0, .slice none 0 0, .slice none 0 0, .slice none 0 0, .slice none 0 0, .slice none 0 0, .slice none 0 0, .int .i64 0, .int .i64 0] 31)) := by
    refine ⟨⟨fun i hi _ => ?_, ?_, ?_, ?_, fun i => ?_, by simp; omega⟩, ⟨fun i hi _ => ?_, ?_, ?_, ?_, fun i => ?_, by simp⟩, World.ownsRow_nil _ _ _ _, World.ownsRow_nil _ _ _ _, ((Below.refl _ _).alloc (Nat.le_refl _) _).alloc (by simp) _⟩
    · rw [World.cell?_alloc_past _ _ _ (by simp), World.cell?_alloc_new]; exact nils i hi
    · rw [World.cell?_alloc_past _ _ _ (by simp), World.cell?_alloc_new]; rfl
    · rw [World.cell?_alloc_past _ _ _ (by simp), World.cell?_alloc_new]; rfl
    · rw [World.cell?_alloc_past _ _ _ (by simp), World.cell?_alloc_new]; rfl
    · rw [World.frozen?_alloc_past _ _ _ (by simp), World.frozen?_alloc_new]
    · rw [World.cell?_alloc_at _ _ _ _ (by simp)]; exact nils i hi
    · rw [World.cell?_alloc_at _ _ _ _ (by simp)]; rfl
    · rw [World.cell?_alloc_at _ _ _ _ (by simp)]; rfl
    · rw [World.cell?_alloc_at _ _ _ _ (by simp)]; rfl
    · have := World.frozen?_alloc_new (w.alloc (.cells #[.slice none 0 0, .slice none 0 0, .slice none 0 0, .slice none 0 0, .slice none 0 0, .slice none 0 0, .slice none 0 0, .slice none 0 0, .int .i64 0, .int .i64 0] 31)) #[.slice none 0 0, .slice none 0 0, .slice none 0 0, .slice none 0 0, .slice none 0 0, .slice none 0 0, .slice none 0 0, .slice none 0 0, .int .i64 0, .int .i64 0] 31 i
      rwa [World.size_alloc] at this
  have HL0 := Lib.hid hL0
  clear hL0
  go_wp2_with fail
  go_loopw [8] (fun i W => ∃ p : Nat, p ≤ 31 + k ∧ i = .int .i64 p ∧ ∃ va, LimAt w w.heap.size p 0 va (.slice none 0 0) W) (fun i _ => 31 + k - (intOf i).toNat)
  case atStart => exact ⟨0, by omega, rfl, _, HL0.out⟩
  case round =>
    obtain ⟨p, hp, rfl, va, hL⟩ := hrel
    have HL := Lib.hid hL
    have c0 := hL.a.cj
    have hlt := hL.b.lt
    clear hL
    by_cases hpk : p < 31 + k
    · have h1 : (p : Int) < 31 + (k : Int) := by omega
      go_wp2_with (at_builtin; (refine wpList_append_own _ rfl (.tmp 34) (.tmp 37) 22 rfl (w.heap.size + 2) 46 i0 _ 3 32 Try.underlying22 hi0 hz0 hy1 hy2 rfl (by decide) va p _ rfl (World.ownsRow.alloc HL.out.ra _) ⟨wr.heap.size, 0, none⟩ 1 1 (encFld (fldD p)) rfl rfl (World.news_of_block (cs := (encFld (fldD p)).toArray) (t := 46) (fr := (0, 0)) (heap_alloc_new wr _)) (one_fld _) (by unfold maxLen; omega) (by omega) (by simp; omega) ?_; intro v1 w1 hO1 hg1 _; obtain ⟨A1, cap1, rfl⟩ := own_shapeG hO1; obtain ⟨k1, k2, k3⟩ := HL.out.fld hO1 hg1; have K1 := Lib.hid k1; clear k1 hO1 hg1))
      go_roundw
      case rel => exact ⟨p + 1, by omega, by simp, _, K1.out⟩
      case measure => simp [intOf]; omega
    · obtain rfl : p = 31 + k := by omega
      clear c0 hpk
      rw [show ((31 + k : Nat) : Int) = 31 + (k : Int) from by omega]
      go_wp2_with fail
      go_loopw [9] (fun i W => ∃ q : Nat, q ≤ 11 + k ∧ i = .int .i64 q ∧ ∃ va vb, LimAt w w.heap.size (31 + k) q va vb W) (fun i _ => 11 + k - (intOf i).toNat)
      case atStart => exact ⟨0, by omega, rfl, _, _, HL.out⟩
      case round =>
        obtain ⟨q, hq, rfl, va, vb, hL⟩ := hrel
        have HL := Lib.hid hL
        have c5 := hL.b.cj
        have hlt := hL.b.lt
        clear hL
        by_cases hqk : q < 11 + k
        · have h1 : (q : Int) < 11 + (k : Int) := by omega
          go_wp2_with (at_builtin; (refine wpList_append_own _ rfl (.tmp 47) (.tmp 50) 27 rfl (w.heap.size + 2) 48 i1 _ 2 16 Try.underlying27 hi1 hz1 hy3 hy4 rfl (by decide) vb q _ rfl (World.ownsRow.alloc HL.out.rb _) ⟨wr.heap.size, 0, none⟩ 1 1 (encStg (stgD q)) rfl rfl (World.news_of_block (cs := (encStg (stgD q)).toArray) (t := 48) (fr := (0, 0)) (heap_alloc_new wr _)) (one_stg _) (by unfold maxLen; omega) (by omega) (by simp; omega) ?_; intro v1 w1 hO1 hg1 _; obtain ⟨A1, cap1, rfl⟩ := own_shapeG hO1; obtain ⟨k1, k2, k3⟩ := HL.out.stg hO1 hg1; have K1 := Lib.hid k1; clear k1 hO1 hg1))
          go_roundw
          case rel => exact ⟨q + 1, by omega, by simp, _, _, K1.out⟩
          case measure => simp [intOf]; omega
        · obtain rfl : q = 11 + k := by omega
          clear c5 hqk
          rw [show ((11 + k : Nat) : Int) = 11 + (k : Int) from by omega]
          obtain ⟨w3, hw3⟩ : ∃ x, x = wr := ⟨wr, rfl⟩
          subst hw3
          obtain ⟨Aa, capa, rfl⟩ := own_shapeG HL.out.ra
          obtain ⟨Ab, capb, rfl⟩ := own_shapeG HL.out.rb
          go_wp2_with fail
          go_loop [10, 11] (fun s i => ∃ r : Nat, r ≤ 399 + k ∧ i = .int .i64 r ∧ s = .string (strL (List.replicate r 120))) (fun _ i => 399 + k - (intOf i).toNat)
          case atStart => exact ⟨0, by omega, rfl, rfl⟩
          case round =>
            obtain ⟨r, hr, rfl, rfl⟩ := hrel
            have hz : (strL (List.replicate r 120)).size + 1 ≤ 9223372036854775807 := by rw [strL_size, List.length_replicate]; omega
            have hs2 : strL (List.replicate r 120) ++ ⟨#[120]⟩ = strL (List.replicate (r + 1) 120) := by
              have := str_snoc (List.replicate r 120) 120
              rw [← List.replicate_succ'] at this
              exact this
            have HS := Lib.hid hs2
            clear hs2
            by_cases hrk : r < 399 + k
            · have h1 : (r : Int) < 399 + (k : Int) := by omega
              go_wp2_with fail
              go_round
              case rel => exact ⟨r + 1, by omega, by simp, by rw [← HS.out]⟩
              case measure => simp [intOf]; omega
            · obtain rfl : r = 399 + k := by omega
              clear hrk HS hz
              obtain ⟨w4, hw4⟩ : ∃ w4, w4 = (w3.alloc (.cells #[.int .i64 0, .string ⟨#[]⟩, .slice none 0 0, .slice none 0 0, .int .i64 0, .slice none 0 0, .int .i64 0, .string (strL (List.replicate (399 + k) 120))] 53)).alloc (.cells #[.slice none 0 0, .slice none 0 0, .slice none 0 0, .slice none 0 0, .slice (some ⟨w3.heap.size, 0, none⟩) 1 1, .slice none 0 0, .slice none 0 0, .slice none 0 0, .int .i64 0, .int .i64 0] 31) := ⟨_, rfl⟩
              have z4 : w4.heap.size = w3.heap.size + 2 := by rw [hw4]; simp
              have b4 : Below w3.heap.size w3 w4 := by rw [hw4]; exact ((Below.refl _ _).alloc (Nat.le_refl _) _).alloc (by simp) _
              have hlb : w.heap.size + 1 < w3.heap.size := HL.out.b.lt
              have hla : w.heap.size < w3.heap.size := by omega
              have hla1 : w.heap.size < w3.heap.size + 1 := by omega
              have hcc : ∀ i, w4.cell? ⟨w3.heap.size + 1, i, none⟩ = #[Value.slice none 0 0, .slice none 0 0, .slice none 0 0, .slice none 0 0, .slice (some ⟨w3.heap.size, 0, none⟩) 1 1, .slice none 0 0, .slice none 0 0, .slice none 0 0, .int .i64 0, .int .i64 0][i]? := fun i => by rw [hw4]; exact World.cell?_alloc_at _ _ _ _ (by simp)
              have htc : CellsAt w4 w3.heap.size 0 (encTab ⟨0, [], [], [], 0, [], 0, List.replicate (399 + k) 120⟩) := fun j hj => by
                rw [Nat.zero_add, hw4, World.cell?_alloc_past _ _ _ (by simp), World.cell?_alloc_new, List.getElem?_toArray]
                exact List.getElem?_eq_getElem hj
              have htx : Txt (List.replicate (399 + k) 120) := ⟨fun x hx => by rw [List.eq_of_mem_replicate hx]; decide, by rw [List.length_replicate]; omega⟩
              have hsa := mono_schema _ _ _ _ _ b4.size (kept_schema _ _ _ _ _ b4 (HL.out.sa (by omega)))
              have hsb := mono_schema _ _ _ _ _ b4.size (kept_schema _ _ _ _ _ b4 (HL.out.sb (by omega)))
              have hsc : SchemaV w4.heap.size w4 [.slice none 0 0, .slice none 0 0, .slice none 0 0, .slice none 0 0, .slice (some ⟨w3.heap.size, 0, none⟩) 1 1, .slice none 0 0, .slice none 0 0, .slice none 0 0, .int .i64 0, .int .i64 0] (cD (399 + k)) :=
                ⟨_, _, _, _, _, _, _, _, rfl, row_nil _ _ _ _, row_nil _ _ _ _, row_nil _ _ _ _, row_nil _ _ _ _, ⟨_, 1, 1, rfl, Lib.hid rfl, Nat.le_refl _, by decide, .inr ⟨w3.heap.size, 0, rfl, fun i x hx => by
                  obtain ⟨rfl, rfl⟩ : i = 0 ∧ x = ⟨0, [], [], [], 0, [], 0, List.replicate (399 + k) 120⟩ := by
                    cases i with
                    | zero => exact ⟨rfl, by simpa [cD] using hx.symm⟩
                    | succ i => simp [cD] at hx
                  exact ⟨by omega, _, htc, _, _, _, rfl, i64_0, txt_nil, row_nil _ _ _ _, row_nil _ _ _ _, i64_0, row_nil _ _ _ _, i64_0, htx⟩⟩⟩, row_nil _ _ _ _, row_nil _ _ _ _, row_nil _ _ _ _, i64_0, i64_0⟩
              have HSA := Lib.hid hsa
              have HSB := Lib.hid hsb
              have HSC := Lib.hid hsc
              have HCC := Lib.hid hcc
              have HZ4 := Lib.hid z4
              have HB4 := Lib.hid b4
              have HW4 := Lib.hid hw4
              clear hsa hsb hsc hcc htc z4 b4 hw4 htx
              have d0 : w3.cell? ⟨w.heap.size, 0, none⟩ = some (.slice Aa (31 + k) capa) := HL.out.a.cj
              have d1 : w3.cell? ⟨w.heap.size, 1, none⟩ = some (.slice none 0 0) := HL.out.a.c 1 (by decide) (by decide)
              have d2 : w3.cell? ⟨w.heap.size, 2, none⟩ = some (.slice none 0 0) := HL.out.a.c 2 (by decide) (by decide)
              have d3 : w3.cell? ⟨w.heap.size, 3, none⟩ = some (.slice none 0 0) := HL.out.a.c 3 (by decide) (by decide)
              have d4 : w3.cell? ⟨w.heap.size, 4, none⟩ = some (.slice none 0 0) := HL.out.a.c 4 (by decide) (by decide)
              have d5 : w3.cell? ⟨w.heap.size, 5, none⟩ = some (.slice none 0 0) := HL.out.a.c 5 (by decide) (by decide)
              have d6 : w3.cell? ⟨w.heap.size, 6, none⟩ = some (.slice none 0 0) := HL.out.a.c 6 (by decide) (by decide)
              have d7 : w3.cell? ⟨w.heap.size, 7, none⟩ = some (.slice none 0 0) := HL.out.a.c 7 (by decide) (by decide)
              have d8 : w3.cell? ⟨w.heap.size, 8, none⟩ = some (.int .i64 0) := HL.out.a.c8
              have d9 : w3.cell? ⟨w.heap.size, 9, none⟩ = some (.int .i64 0) := HL.out.a.c9
              go_wp2_with fail
              rw [← HW4.out]
              refine (encode_any (aD (31 + k)) _ _ HSA.out).mono ?_
              rw [want_a k hk3]
              rintro e w5 ⟨v5, rfl, hO5, hb5⟩
              obtain ⟨A5, n5, cap5, rfl, hn5⟩ := own_len hO5
              have hc5 : ∀ i, w5.cell? ⟨w.heap.size + 1, i, none⟩ = w3.cell? ⟨w.heap.size + 1, i, none⟩ := fun i => (hb5.cell (by have := HZ4.out; show w.heap.size + 1 < _; omega)).trans (HB4.out.cell hlb)
              have g0 : w5.cell? ⟨(w.heap.size + 1), 0, none⟩ = some (.slice none 0 0) := (hc5 0).trans (HL.out.b.c 0 (by decide) (by decide))
              have g1 : w5.cell? ⟨(w.heap.size + 1), 1, none⟩ = some (.slice none 0 0) := (hc5 1).trans (HL.out.b.c 1 (by decide) (by decide))
              have g2 : w5.cell? ⟨(w.heap.size + 1), 2, none⟩ = some (.slice none 0 0) := (hc5 2).trans (HL.out.b.c 2 (by decide) (by decide))
              have g3 : w5.cell? ⟨(w.heap.size + 1), 3, none⟩ = some (.slice none 0 0) := (hc5 3).trans (HL.out.b.c 3 (by decide) (by decide))
              have g4 : w5.cell? ⟨(w.heap.size + 1), 4, none⟩ = some (.slice none 0 0) := (hc5 4).trans (HL.out.b.c 4 (by decide) (by decide))
              have g5 : w5.cell? ⟨(w.heap.size + 1), 5, none⟩ = some (.slice Ab (11 + k) capb) := (hc5 5).trans (HL.out.b.cj)
              have g6 : w5.cell? ⟨(w.heap.size + 1), 6, none⟩ = some (.slice none 0 0) := (hc5 6).trans (HL.out.b.c 6 (by decide) (by decide))
              have g7 : w5.cell? ⟨(w.heap.size + 1), 7, none⟩ = some (.slice none 0 0) := (hc5 7).trans (HL.out.b.c 7 (by decide) (by decide))
              have g8 : w5.cell? ⟨(w.heap.size + 1), 8, none⟩ = some (.int .i64 0) := (hc5 8).trans (HL.out.b.c8)
              have g9 : w5.cell? ⟨(w.heap.size + 1), 9, none⟩ = some (.int .i64 0) := (hc5 9).trans (HL.out.b.c9)
              have HB5 := Lib.hid hb5
              clear hb5 hc5 hO5 hn5
              go_wp2_with fail
              refine (encode_any (bD (11 + k)) _ _ (mono_schema _ _ _ _ _ HB5.out.size (kept_schema _ _ _ _ _ HB5.out HSB.out))).mono ?_
              rw [want_b k hk3]
              rintro e w6 ⟨v6, rfl, hO6, hb6⟩
              obtain ⟨A6, n6, cap6, rfl, hn6⟩ := own_len hO6
              have hb46 := HB5.out.trans (hb6.mono HB5.out.size)
              have hc6 : ∀ i, w6.cell? ⟨w3.heap.size + 1, i, none⟩ = w4.cell? ⟨w3.heap.size + 1, i, none⟩ := fun i => hb46.cell (by have := HZ4.out; show w3.heap.size + 1 < _; omega)
              have k0 : w6.cell? ⟨(w3.heap.size + 1), 0, none⟩ = some (.slice none 0 0) := (hc6 0).trans (HCC.out 0)
              have k1 : w6.cell? ⟨(w3.heap.size + 1), 1, none⟩ = some (.slice none 0 0) := (hc6 1).trans (HCC.out 1)
              have k2 : w6.cell? ⟨(w3.heap.size + 1), 2, none⟩ = some (.slice none 0 0) := (hc6 2).trans (HCC.out 2)
              have k3 : w6.cell? ⟨(w3.heap.size + 1), 3, none⟩ = some (.slice none 0 0) := (hc6 3).trans (HCC.out 3)
              have k4 : w6.cell? ⟨(w3.heap.size + 1), 4, none⟩ = some (.slice (some ⟨w3.heap.size, 0, none⟩) 1 1) := (hc6 4).trans (HCC.out 4)
              have k5 : w6.cell? ⟨(w3.heap.size + 1), 5, none⟩ = some (.slice none 0 0) := (hc6 5).trans (HCC.out 5)
              have k6 : w6.cell? ⟨(w3.heap.size + 1), 6, none⟩ = some (.slice none 0 0) := (hc6 6).trans (HCC.out 6)
              have k7 : w6.cell? ⟨(w3.heap.size + 1), 7, none⟩ = some (.slice none 0 0) := (hc6 7).trans (HCC.out 7)
              have k8 : w6.cell? ⟨(w3.heap.size + 1), 8, none⟩ = some (.int .i64 0) := (hc6 8).trans (HCC.out 8)
              have k9 : w6.cell? ⟨(w3.heap.size + 1), 9, none⟩ = some (.int .i64 0) := (hc6 9).trans (HCC.out 9)
              have HB6 := Lib.hid hb46
              clear hb6 hb46 hc6 hO6 hn6
              go_wp2_with fail
              refine (encode_any (cD (399 + k)) _ _ (mono_schema _ _ _ _ _ HB6.out.size (kept_schema _ _ _ _ _ HB6.out HSC.out))).mono ?_
              rw [want_c k hk3]
              rintro e w7 ⟨v7, rfl, hO7, hb7⟩
              obtain ⟨A7, n7, cap7, rfl, hn7⟩ := own_len hO7
              have HB7 := Lib.hid (HL.out.below.trans ((HB4.out.mono (Nat.le_of_lt hla)).trans ((HB6.out.mono (by have := HZ4.out; omega)).trans (hb7.mono (by have := HZ4.out; have := HB6.out.size; omega)))))
              clear hb7 hO7 hn7
              obtain ⟨m, hm⟩ : ∃ m : Nat, (m : Int) = sz % 5 := ⟨(sz % 5).toNat, by omega⟩
              have hm5 : m < 5 := by omega
              have HM := Lib.hid hm
              clear hm d0 d1 d2 d3 d4 d5 d6 d7 d8 d9 g0 g1 g2 g3 g4 g5 g6 g7 g8 g9 k0 k1 k2 k3 k4 k5 k6 k7 k8 k9
              by_cases hk2 : k = 2
              · subst hk2
                rw [show want 2 = 3 from rfl]
                by_cases hm2 : m ≤ 2
                · have hle : 7998 + (m : Int) ≤ 8000 := by omega
                  have hd : decide (8000 < 7998 + (m : Int)) = false := by simp; omega
                  go_wp2_with fail
                  refine (mod_any sz 5 hs (by decide) (by decide) _).mono ?_
                  rw [← HM.out]
                  rintro e w8 ⟨rfl, rfl⟩
                  obtain ⟨mk, hz⟩ := mk_zeros (7998 + m) (by omega) w7
                  rw [show ((7998 + m : Nat) : Int) = 7998 + (m : Int) from by omega] at mk
                  obtain ⟨w9, hw9⟩ : ∃ w9, w9 = w7.alloc (.cells (rowA (7998 + m) fun _ => .int .u8 0) 5) := ⟨_, rfl⟩
                  rw [← hw9] at mk hz
                  have b9 : Below w7.heap.size w7 w9 := by rw [hw9]; exact (Below.refl _ _).alloc (Nat.le_refl _) _
                  have HZ := Lib.hid hz
                  have HB9 := Lib.hid (HB7.out.trans (b9.mono HB7.out.size))
                  clear hz hw9 b9
                  go_wp2_with fail
                  refine (zdecode_any _ _ (7998 + m) _ w9 (by omega) (by omega) HZ.out).mono ?_
                  rintro e w10 ⟨rfl, hb10⟩
                  have HB10 := Lib.hid (HB9.out.trans (hb10.mono HB9.out.size))
                  clear hb10
                  go_wp2_with (go_at_call 7; (refine (sbegun_any _).mono ?_; rintro en wz ⟨rfl, bz⟩))
                  go_ret
                  exact ⟨rfl, (HB10.out.alloc HB10.out.size _).trans (bz.mono (by have := HB10.out.size; simp; omega))⟩
                · have hle : 8000 < 7998 + (m : Int) := by omega
                  have hd : decide (8000 < 7998 + (m : Int)) = true := by simp; omega
                  go_wp2_with fail
                  refine (mod_any sz 5 hs (by decide) (by decide) _).mono ?_
                  rw [← HM.out]
                  rintro e w8 ⟨rfl, rfl⟩
                  obtain ⟨mk, hz⟩ := mk_zeros (7998 + m) (by omega) w7
                  rw [show ((7998 + m : Nat) : Int) = 7998 + (m : Int) from by omega] at mk
                  obtain ⟨w9, hw9⟩ : ∃ w9, w9 = w7.alloc (.cells (rowA (7998 + m) fun _ => .int .u8 0) 5) := ⟨_, rfl⟩
                  rw [← hw9] at mk hz
                  have b9 : Below w7.heap.size w7 w9 := by rw [hw9]; exact (Below.refl _ _).alloc (Nat.le_refl _) _
                  have HZ := Lib.hid hz
                  have HB9 := Lib.hid (HB7.out.trans (b9.mono HB7.out.size))
                  clear hz hw9 b9
                  go_wp2_with fail
                  refine (zdecode_long _ (7998 + m) _ w9 (by omega) (by omega)).mono ?_
                  rintro e w10 ⟨rfl, hb10⟩
                  have HB10 := Lib.hid (HB9.out.trans (hb10.mono HB9.out.size))
                  clear hb10
                  go_wp2_with (go_at_call 7; (refine (sbegun_any _).mono ?_; rintro en wz ⟨rfl, bz⟩))
                  go_ret
                  exact ⟨rfl, (HB10.out.alloc HB10.out.size _).trans (bz.mono (by have := HB10.out.size; simp; omega))⟩
              · have hw0 : want k = 0 := by simp [want, hk2]
                rw [hw0]
                have hk2' : ¬ (k : Int) = 2 := by omega
                by_cases hm2 : m ≤ 2
                · have hle : 7998 + (m : Int) ≤ 8000 := by omega
                  have hd : decide (8000 < 7998 + (m : Int)) = false := by simp; omega
                  go_wp2_with fail
                  refine (mod_any sz 5 hs (by decide) (by decide) _).mono ?_
                  rw [← HM.out]
                  rintro e w8 ⟨rfl, rfl⟩
                  obtain ⟨mk, hz⟩ := mk_zeros (7998 + m) (by omega) w7
                  rw [show ((7998 + m : Nat) : Int) = 7998 + (m : Int) from by omega] at mk
                  obtain ⟨w9, hw9⟩ : ∃ w9, w9 = w7.alloc (.cells (rowA (7998 + m) fun _ => .int .u8 0) 5) := ⟨_, rfl⟩
                  rw [← hw9] at mk hz
                  have b9 : Below w7.heap.size w7 w9 := by rw [hw9]; exact (Below.refl _ _).alloc (Nat.le_refl _) _
                  have HZ := Lib.hid hz
                  have HB9 := Lib.hid (HB7.out.trans (b9.mono HB7.out.size))
                  clear hz hw9 b9
                  go_wp2_with fail
                  refine (zdecode_any _ _ (7998 + m) _ w9 (by omega) (by omega) HZ.out).mono ?_
                  rintro e w10 ⟨rfl, hb10⟩
                  have HB10 := Lib.hid (HB9.out.trans (hb10.mono HB9.out.size))
                  clear hb10
                  go_wp2_with (go_at_call 7; (refine (sbegun_any _).mono ?_; rintro en wz ⟨rfl, bz⟩))
                  go_ret
                  exact ⟨rfl, (HB10.out.alloc HB10.out.size _).trans (bz.mono (by have := HB10.out.size; simp; omega))⟩
                · have hle : 8000 < 7998 + (m : Int) := by omega
                  have hd : decide (8000 < 7998 + (m : Int)) = true := by simp; omega
                  go_wp2_with fail
                  refine (mod_any sz 5 hs (by decide) (by decide) _).mono ?_
                  rw [← HM.out]
                  rintro e w8 ⟨rfl, rfl⟩
                  obtain ⟨mk, hz⟩ := mk_zeros (7998 + m) (by omega) w7
                  rw [show ((7998 + m : Nat) : Int) = 7998 + (m : Int) from by omega] at mk
                  obtain ⟨w9, hw9⟩ : ∃ w9, w9 = w7.alloc (.cells (rowA (7998 + m) fun _ => .int .u8 0) 5) := ⟨_, rfl⟩
                  rw [← hw9] at mk hz
                  have b9 : Below w7.heap.size w7 w9 := by rw [hw9]; exact (Below.refl _ _).alloc (Nat.le_refl _) _
                  have HZ := Lib.hid hz
                  have HB9 := Lib.hid (HB7.out.trans (b9.mono HB7.out.size))
                  clear hz hw9 b9
                  go_wp2_with fail
                  refine (zdecode_long _ (7998 + m) _ w9 (by omega) (by omega)).mono ?_
                  rintro e w10 ⟨rfl, hb10⟩
                  have HB10 := Lib.hid (HB9.out.trans (hb10.mono HB9.out.size))
                  clear hb10
                  go_wp2_with (go_at_call 7; (refine (sbegun_any _).mono ?_; rintro en wz ⟨rfl, bz⟩))
                  go_ret
                  exact ⟨rfl, (HB10.out.alloc HB10.out.size _).trans (bz.mono (by have := HB10.out.size; simp; omega))⟩
end Go.Proofs.Ytljmiickhkkceaa
