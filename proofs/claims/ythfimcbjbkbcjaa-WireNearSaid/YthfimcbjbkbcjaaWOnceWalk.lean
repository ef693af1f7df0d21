/- WireOnce: its walk. -/
import Derived.Test.YthfimcbjbkbcjaaWOpen
import Derived.Test.YthfimcbjbkbcjaaWBegun
namespace Go.Proofs.Ythfimcbjbkbcjaa
open Go.RowKit

/-- The cells of an element. -/
def opCells (x : OpR) : Array Value := #[.int .i64 x.kind, .int .i64 x.nn, .int .i64 x.most, .int .u64 (hi x.val), .int .u64 (lo x.val), .slice x.sA x.sn x.sc]
theorem OpAt.kept {w w' : World} {b o : Nat} {x : OpR} {row : Option Nat} (h : OpAt w b o x) (hg : w.grownBy w' row) (hb : row ≠ some b) (hD : row ≠ some x.sD) : OpAt w' b o x := { h with
  c0 := by rw [cell_kept hg h.lt (Ne.symm hb)]; exact h.c0
  c1 := by rw [cell_kept hg h.lt (Ne.symm hb)]; exact h.c1
  c2 := by rw [cell_kept hg h.lt (Ne.symm hb)]; exact h.c2
  c3 := by rw [cell_kept hg h.lt (Ne.symm hb)]; exact h.c3
  c4 := by rw [cell_kept hg h.lt (Ne.symm hb)]; exact h.c4
  c5 := by rw [cell_kept hg h.lt (Ne.symm hb)]; exact h.c5
  reads := h.reads.kept hg hD
  lt := Nat.lt_of_lt_of_le h.lt hg.size
  dlt := fun hx => Nat.lt_of_lt_of_le (h.dlt hx) hg.size }
theorem OpAt.below {w w' : World} {b o : Nat} {x : OpR} (h : OpAt w b o x) (hb : Below w.heap.size w w') : OpAt w' b o x := h.kept (grown_of_below hb none) (by simp) (by simp)
theorem uE_1 (l : List Nat) : uE 1 l = if l.length < 1 then 1 else 0 := by
  rw [uE, if_neg (by decide)]
  rfl
theorem below_step {w w1 w2 : World} {R : Nat} (h : Below w.heap.size w w1) (hg : w1.grownBy w2 (some R)) (hR : w.heap.size ≤ R) : Below w.heap.size w w2 :=
  h.grown hg h.size fun k hk => by injection hk with hk; omega
/-- Where the reader is after j bytes, or at its first error. -/
def OnceAt (w : World) (R D : Nat) (l : List Nat) (j : Nat) (W : World) : Prop :=
  Below w.heap.size w W ∧ ((j ≤ l.length ∧ ∃ A n cap, RdAt W R D (l.drop j) 0 A n cap) ∨ (j ≤ l.length + 1 ∧ ∃ A n cap, RdAt W R D [] 1 A n cap))
theorem once_step {w W W' : World} {R D : Nat} {l : List Nat} {j : Nat} {en : Ending} {x : Value} (hb : Below w.heap.size w W) (hR : w.heap.size ≤ R) (hj : j ≤ l.length)
    (h : Meth R D x (stL (uE 1 (l.drop j)) 1 (l.drop j) 0) (stE (uE 1 (l.drop j)) 0) W en W') : OnceAt w R D l (j + 1) W' := by
  obtain ⟨_, hg, A, n, cap, hr⟩ := h
  refine ⟨below_step hb hg hR, ?_⟩
  by_cases hl : (l.drop j).length < 1
  · have hE : uE 1 (l.drop j) = 1 := by rw [uE_1, if_pos hl]
    rw [hE, stL_bad (by decide), stE_0, show l.drop j = [] from List.eq_nil_of_length_eq_zero (by omega)] at hr
    exact .inr ⟨by omega, _, _, _, hr⟩
  · have hE : uE 1 (l.drop j) = 0 := by rw [uE_1, if_neg hl]
    rw [stL_ok hE, hE, stE_0, List.drop_drop] at hr
    rw [List.length_drop] at hl
    exact .inl ⟨by omega, _, _, _, hr⟩
theorem val_0 : valOf 0 = .agg #[.int .u64 0, .int .u64 0] := rfl
/-- A block other than the reader's is as it was. -/
theorem keep_row {W W' : World} {R b : Nat} (hg : W.grownBy W' (some R)) (hb : b < W.heap.size) (hn : b ≠ R) : ∀ o, W'.cell? ⟨b, o, none⟩ = W.cell? ⟨b, o, none⟩ := fun _ => cell_kept hg hb (by simpa using hn)
theorem rd_alloc {W : World} {R D n cap : Nat} {l : List Nat} {e : Int} {A : Option Addr} (h : RdAt W R D l e A n cap) (o : Obj) : RdAt (W.alloc o) R D l e A n cap := h.kept (row := none) (grown_alloc _ _ none) (by simp) (by simp)
set_option maxRecDepth 100000 in
set_option maxHeartbeats 4000000 in
theorem once_any (a0 : Option Addr) (len0 cap0 : Nat) (D0 : Nat) (l0 : List Nat) (a1 : Option Addr) (len1 cap1 : Nat) (f : Nat → OpR) (w : World)
    (hr0 : ReadsL w D0 a0 l0) (hl0 : l0.length = len0) (hs0 : Small l0) (hc0 : len0 ≤ cap0) (hc1 : len1 ≤ cap1) (hf : OpsAt w a1 len1 f) :
    Calls Try.prog 7 #[.slice a0 len0 cap0, .slice a1 len1 cap1] w fun e w' => e = .returned (.bool true) ∧ Below w.heap.size w w' := by
  obtain ⟨n, hn⟩ : ∃ n : Nat, n = min len0 60 := ⟨_, rfl⟩
  obtain ⟨m, hm⟩ : ∃ m : Nat, m = min len1 12 := ⟨_, rfl⟩
  have hn60 : n ≤ 60 := by omega
  have hm12 : m ≤ 12 := by omega
  have hnc : n ≤ cap0 := by omega
  have hmc : m ≤ cap1 := by omega
  have hml : m ≤ len1 := by omega
  have e0 : min (len0 : Int) 60 = n := by omega
  have e1 : min (len1 : Int) 12 = m := by omega
  have b0 : (n : Int) ≤ (cap0 : Int) := by omega
  have b1 : (m : Int) ≤ (cap1 : Int) := by omega
  have hrn : ReadsL w D0 a0 (l0.take n) := hr0.take n
  have hln : (l0.take n).length = n := by rw [List.length_take]; omega
  have hsn : Small (l0.take n) := hs0.take n
  obtain ⟨l, hl⟩ : ∃ l, l = l0.take n := ⟨_, rfl⟩
  rw [← hl] at hrn hln hsn
  have HRN := Lib.hid hrn
  have HLN := Lib.hid hln
  have HSN := Lib.hid hsn
  have HF := Lib.hid hf
  clear hr0 hl0 hs0 hf hn hm hrn hln hsn hl
  go_enter Try.func7, Try.ntmps7
  go_wp2_with (go_at_call 10; (refine (new_any a0 D0 n cap0 l _ HRN.out HSN.out HLN.out (by omega)).mono ?_; rintro e w1 ⟨R, D, A1, n1, cap1', rfl, hR, hD, hr1, hb1⟩; have HR1 := Lib.hid hr1; have HB1 := Lib.hid hb1; clear hr1 hb1))
  go_loopw [6] (fun i w' => ∃ j : Nat, j ≤ 80 ∧ i = .int .i64 j ∧ OnceAt w R D l j w') (fun i _ => 80 - (intOf i).toNat)
  case atStart => exact ⟨0, by omega, rfl, HB1.out, .inl ⟨by omega, _, _, _, by rw [List.drop_zero]; exact HR1.out⟩⟩
  case round =>
    obtain ⟨j, hj, rfl, hb, hst⟩ := hrel
    rcases hst with ⟨hjl, A2, n2, cap2, hr2⟩ | ⟨hjl, A2, n2, cap2, hr2⟩
    · have hj80 : (j : Int) < 80 := by have := HLN.out; omega
      have HR2 := Lib.hid hr2
      have HB2 := Lib.hid hb
      have HJ := Lib.hid hjl
      clear hr2 hb hjl
      go_wp2_with (first
        | (go_at_call 13; refine (err_any R D _ A2 n2 cap2 _ 0 HR2.out).mono ?_; rintro e w' ⟨rfl, rfl⟩)
        | (go_at_call 16; (refine (m_uint R D _ A2 n2 cap2 _ 1 (by decide) (by decide) 0 HR2.out).mono ?_; intro e w3 hM; have hstep := once_step HB2.out hR HJ.out hM; obtain ⟨rfl, _⟩ := hM; have HST := Lib.hid hstep; clear hstep)))
      go_roundw
      case rel => exact ⟨j + 1, by omega, by simp, HST.out⟩
      case measure => simp [intOf]; omega
    · have hj80 : (j : Int) < 80 := by have := HLN.out; omega
      have hle := hr2.len
      have hlen0 : n2 = 0 := by simpa using hle.symm
      subst hlen0
      have HR2 := Lib.hid hr2
      have HB2 := Lib.hid hb
      clear hr2 hb hle hjl
      go_wp2_with (first
        | (go_at_call 13; refine (err_any R D _ A2 0 cap2 _ 1 HR2.out).mono ?_; rintro e w' ⟨rfl, rfl⟩)
        | (go_at_call 12; refine (left_any' R D _ A2 0 cap2 _ 1 HR2.out).mono ?_; rintro e w' ⟨rfl, rfl⟩))
      go_loopw [41] (fun i w' => ∃ q : Nat, q ≤ m ∧ i = .int .i64 q ∧ Below w.heap.size w w' ∧ ∃ A n cap, RdAt w' R D [] 1 A n cap) (fun i _ => m - (intOf i).toNat)
      case atStart => exact ⟨0, by omega, rfl, HB2.out, _, _, _, HR2.out⟩
      case round =>
        obtain ⟨q, hq, rfl, hb3, A3, n3, cap3, hr3⟩ := hrel
        by_cases hqm : q < m
        · have hqm' : (q : Int) < (m : Int) := by omega
          obtain ⟨b, o, rfl, hops⟩ := HF.out.resolve_left (by omega)
          have hop := (hops q (by omega)).below hb3
          have hqz : 0 ≤ (q : Int) := by omega
          have hlen3 := hr3.len
          have hn3 : n3 = 0 := by simpa using hlen3.symm
          subst hn3
          have hRlt := hr3.lt
          generalize f q = x at hop
          obtain ⟨kind, nn, most, val, sA, sn, sc, sD, xs⟩ := x
          have d0 : wr.cell? ⟨b, o + q * 6, none⟩ = some (.int .i64 kind) := hop.c0
          have d1 : wr.cell? ⟨b, o + q * 6 + 1, none⟩ = some (.int .i64 nn) := hop.c1
          have d2 : wr.cell? ⟨b, o + q * 6 + 2, none⟩ = some (.int .i64 most) := hop.c2
          have d3 : wr.cell? ⟨b, o + q * 6 + 3, none⟩ = some (.int .u64 (hi val)) := hop.c3
          have d4 : wr.cell? ⟨b, o + q * 6 + 4, none⟩ = some (.int .u64 (lo val)) := hop.c4
          have d5 : wr.cell? ⟨b, o + q * 6 + 5, none⟩ = some (.slice sA sn sc) := hop.c5
          have s0 : wr.heap.size ≠ R := by omega
          have HRa := Lib.hid (rd_alloc hr3 (.cells #[.int .i64 kind, .int .i64 nn, .int .i64 most, .int .u64 (hi val), .int .u64 (lo val), .slice sA sn sc] 28))
          have HB3 := Lib.hid hb3
          clear hr3 hlen3 hb3 hop hops
          go_wp2_with (first
            | (go_at_call 24; (refine (value_err R D [] A3 0 cap3 _ 1 rfl HRa.out).mono ?_; rintro en wa ⟨rfl, ga, Aa, na, ca, ra⟩; rw [val_0]; have sa : wr.heap.size < wa.heap.size := (by have := ga.size; simp at this; omega); have ka := keep_row ga (b := wr.heap.size) (by simp) s0; have HRb := Lib.hid (rd_alloc ra (.cells #[.int .u64 0, .int .u64 0] 26)); have sv : wa.heap.size ≠ R := (by have := ra.lt; omega); clear ra))
            | (go_at_call 16; (refine (uint_err R D [] _ _ _ _ _ 1 rfl HRb.out).mono ?_; rintro en wb ⟨rfl, gb', Ab, nb', cb, rb⟩; have kb := keep_row gb' (b := wr.heap.size) (by simp; omega) s0; have vb := keep_row gb' (b := wa.heap.size) (by simp) sv; have sb : wa.heap.size < wb.heap.size := (by have := gb'.size; simp at this; omega); have HRc := Lib.hid rb; clear rb))
            | (go_at_call 18; (refine (bool_err R D [] _ _ _ _ 1 rfl HRc.out).mono ?_; rintro en wc ⟨rfl, gc, Ac, nc, cc, rc⟩; have kc := keep_row gc (b := wr.heap.size) (by omega) s0; have vc := keep_row gc (b := wa.heap.size) (by omega) sv; have sc' : wa.heap.size < wc.heap.size := (by have := gc.size; omega); have HRd := Lib.hid rc; clear rc))
            | (go_at_call 20; (refine (bytes_err R D [] _ _ _ _ _ 1 rfl HRd.out).mono ?_; rintro en wd ⟨rfl, gd, Ad, nd, cd, rd⟩; have kd := keep_row gd (b := wr.heap.size) (by omega) s0; have vd := keep_row gd (b := wa.heap.size) (by omega) sv; have sd' : wa.heap.size < wd.heap.size := (by have := gd.size; omega); have HRe := Lib.hid rd; clear rd))
            | (go_at_call 22; (refine (text_err R D [] _ _ _ _ _ 1 rfl HRe.out).mono ?_; rintro en we ⟨rfl, ge, Ae, ne', ce, re⟩; have ke := keep_row ge (b := wr.heap.size) (by omega) s0; have ve := keep_row ge (b := wa.heap.size) (by omega) sv; have se' : wa.heap.size < we.heap.size := (by have := ge.size; omega); have HRf := Lib.hid re; clear re))
            | (go_at_call 30; (refine (count_err R D [] _ _ _ _ _ 1 rfl HRf.out).mono ?_; rintro en wf ⟨rfl, gf, Af, nf, cf, rf⟩; have kf := keep_row gf (b := wr.heap.size) (by omega) s0; have vf := keep_row gf (b := wa.heap.size) (by omega) sv; have hnf : nf = 0 := (by have := rf.len; simpa using this.symm); subst hnf; have HRg := Lib.hid rf; clear rf))
            | (go_at_call 13; (refine (err_any R D _ _ _ _ _ 1 HRg.out).mono ?_; rintro en w' ⟨rfl, rfl⟩))
            | (go_at_call 12; (refine (left_any' R D _ _ 0 _ _ 1 HRg.out).mono ?_; rintro en w' ⟨rfl, rfl⟩)))
          have B1 := below_step (HB3.out.alloc HB3.out.size _) ga hR
          have B2 := below_step (B1.alloc B1.size _) gb' hR
          have B6 := below_step (below_step (below_step (below_step B2 gc hR) gd hR) ge hR) gf hR
          go_roundw
          case rel => exact ⟨q + 1, by omega, by simp, B6, _, _, _, HRg.out⟩
          case measure => simp [intOf]; omega
        · obtain rfl : q = m := by omega
          have HB3 := Lib.hid hb3
          clear hb3
          go_wp2_with (first
            | (go_at_call 16; (refine (uint_nil _ 1).mono ?_; rintro en wu ⟨rfl, bu⟩))
            | (go_at_call 13; (refine (err_nil _).mono ?_; rintro en w' ⟨rfl, rfl⟩))
            | (go_at_call 9; (refine (wbegun_any _).mono ?_; rintro en wz ⟨rfl, bz⟩)))
          go_ret
          exact ⟨rfl, (HB3.out.trans (bu.mono HB3.out.size)).trans (bz.mono (Nat.le_trans HB3.out.size bu.size))⟩
end Go.Proofs.Ythfimcbjbkbcjaa
