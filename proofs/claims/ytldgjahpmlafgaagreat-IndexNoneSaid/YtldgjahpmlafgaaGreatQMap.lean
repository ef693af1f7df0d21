/- Layer 11: points as the keys of a map: what a map of points to numbers holds. -/
import Derived.Test.YtldgjahpmlafgaaGreatQPure
import Derived.Test.YtldgjahpmlafgaaGreatOpenB
import Derived.Maps.OwnSet
import Derived.Maps.RangeWalk
import Derived.DeepKeys4
namespace Go.Proofs.YtldgjahpmlafgaaGreat
open Go.RowKit Go.Maps
set_option maxRecDepth 100000 in
theorem laidOutQ : laidOutB Tryz.prog = true := by kernel_rfl
set_option maxRecDepth 100000 in
theorem lawPt : Keyed Tryz.prog 51 := Keyed.of_law (deep_law_laid laidOutQ (m := 3) (by omega) (of_decide_eq_true (by kernel_rfl)) (by kernel_rfl) (by kernel_rfl))
def ptV (p : Pt) : Value := .agg #[.int .u64 (hi p.a), .int .u64 (lo p.a), .int .u64 (hi p.b), .int .u64 (lo p.b), .int .u64 (hi p.c), .int .u64 (lo p.c), .int .u64 (hi p.d), .int .u64 (lo p.d)]
theorem wfU {n : Int} (h0 : 0 ≤ n) (h1 : n < 18446744073709551616) : (Lit.int .u64 n).wf = true := by
  simp [Lit.wf, IntKind.min, IntKind.max, IntKind.signed, IntKind.bits]
  omega
set_option maxRecDepth 100000 in
theorem szVal : Tryz.prog.cellsOf 49 = 2 := by kernel_rfl
set_option maxRecDepth 100000 in
theorem szPt : Tryz.prog.cellsOf 51 = 8 := by kernel_rfl
set_option maxRecDepth 100000 in
theorem szU : Tryz.prog.cellsOf 47 = 1 := by kernel_rfl
theorem klv_val (d : Nat) {x y : Int} (hx : 0 ≤ x ∧ x < 18446744073709551616) (hy : 0 ≤ y ∧ y < 18446744073709551616) : Tryz.prog.keyLits (d + 2) 49 [.int .u64 x, .int .u64 y] = some [.int .u64 x, .int .u64 y] := by
  simp [Program.keyLits, Tryz.underlying49, szVal, szU, Tryz.underlying47, wfU hx.1 hx.2, wfU hy.1 hy.2, List.mapM_cons]
theorem kl_val_inv (d : Nat) {cs : List Value} {ls : List Lit} (h : Tryz.prog.keyLits (d + 2) 49 cs = some ls) : ∃ x y : Int, cs = [.int .u64 x, .int .u64 y] ∧ (0 ≤ x ∧ x < 18446744073709551616) ∧ (0 ≤ y ∧ y < 18446744073709551616) ∧ ls = [.int .u64 x, .int .u64 y] := by
  rcases cs with _ | ⟨u, _ | ⟨v, _ | ⟨z, r⟩⟩⟩
  · simp [Program.keyLits, Tryz.underlying49, szVal] at h
  · simp [Program.keyLits, Tryz.underlying49, szVal] at h
  · simp [Program.keyLits, Tryz.underlying49, szVal, szU, Tryz.underlying47, List.mapM_cons] at h
    cases u <;> try (simp at h; done)
    rename_i q n
    by_cases hu : q = .u64 ∧ (Lit.int .u64 n).wf = true
    · obtain ⟨rfl, hw⟩ := hu
      simp only [hw, and_self, if_true, Option.bind_some, Function.comp] at h
      cases v <;> try (simp at h; done)
      rename_i q2 n2
      by_cases hv : q2 = .u64 ∧ (Lit.int .u64 n2).wf = true
      · obtain ⟨rfl, hw2⟩ := hv
        simp [hw2] at h
        exact ⟨n, n2, rfl, u64_of_wf hw, u64_of_wf hw2, h.symm⟩
      · simp [hv] at h
    · simp [hu] at h
  · simp [Program.keyLits, Tryz.underlying49, szVal] at h
def klp (p : Pt) : List Lit := [.int .u64 (hi p.a), .int .u64 (lo p.a), .int .u64 (hi p.b), .int .u64 (lo p.b), .int .u64 (hi p.c), .int .u64 (lo p.c), .int .u64 (hi p.d), .int .u64 (lo p.d)]
def kl (p : Pt) : Lit := .string (keyBytes (klp p))
theorem hib (n : Nat) : 0 ≤ hi n ∧ hi n < 18446744073709551616 := ⟨hi_0 n, hi_1 n⟩
theorem lob (n : Nat) : 0 ≤ lo n ∧ lo n < 18446744073709551616 := ⟨lo_0 n, lo_1 n⟩
set_option maxRecDepth 100000 in
theorem typesN : ∃ m, Tryz.prog.types.size = m + 2 := ⟨Tryz.prog.types.size - 2, by have : 2 ≤ Tryz.prog.types.size := of_decide_eq_true (by kernel_rfl); omega⟩
set_option maxRecDepth 100000 in
theorem keyTypePt : Tryz.prog.keyType 51 = true := by kernel_rfl
theorem kl_pt (d : Nat) (cs : List Value) : Tryz.prog.keyLits (d + 1) 51 cs = if cs.length = 8 then ((List.range 4).mapM fun i => Tryz.prog.keyLits d 49 ((cs.drop (i * 2)).take 2)).map List.flatten else none := by
  conv => lhs; unfold Program.keyLits
  rw [Tryz.underlying51]
  simp only [szPt, szVal]
theorem range4 : List.range 4 = [0, 1, 2, 3] := rfl
theorem keyPt (p : Pt) : keyOf Tryz.prog 51 (ptV p) = some (kl p) := by
  obtain ⟨m, hm⟩ := typesN
  unfold keyOf
  rw [Tryz.underlying51]
  simp only [keyTypePt, hm, Bool.true_and, kl_pt, range4]
  simp [ptV, Value.formed, Value.cells, Tryz.underlying51, szPt, klv_val m (hib p.a) (lob p.a), klv_val m (hib p.b) (lob p.b), klv_val m (hib p.c) (lob p.c), klv_val m (hib p.d) (lob p.d), List.mapM_cons, kl, klp]
theorem kl_inj {p q : Pt} (h : kl p = kl q) : p = q := by
  have h1 := lawPt.inj (keyPt p) (by rw [h]; exact keyPt q)
  unfold ptV at h1
  exact Pt.cells_inj (by simpa [Pt.cells] using h1)
theorem ofHL {x y : Int} (hx : 0 ≤ x ∧ x < 18446744073709551616) (hy : 0 ≤ y ∧ y < 18446744073709551616) : ∃ n, n < 2 ^ 128 ∧ hi n = x ∧ lo n = y := by
  obtain ⟨h1, h2, h3⟩ := hi_of x y hx hy
  exact ⟨_, h3, h1, h2⟩
set_option maxRecDepth 100000 in
/-- what is a key is a point -/
theorem key_inv {key : Value} {l : Lit} (h : keyOf Tryz.prog 51 key = some l) : ∃ p, key = ptV p ∧ l = kl p := by
  suffices hs : ∃ p, key = ptV p by
    obtain ⟨p, rfl⟩ := hs
    rw [keyPt p] at h
    exact ⟨p, rfl, (Option.some.inj h).symm⟩
  obtain ⟨m, hm⟩ := typesN
  unfold keyOf at h
  rw [Tryz.underlying51] at h
  simp only [keyTypePt, hm, Bool.true_and, kl_pt, range4] at h
  by_cases hf : key.formed Tryz.prog 51 = true
  · rw [if_pos hf] at h
    obtain ⟨ls, h, -⟩ := Option.map_eq_some_iff.1 h
    have hlen : key.cells.toList.length = 8 := by
      by_cases e : key.cells.toList.length = 8
      · exact e
      · rw [if_neg e] at h; cases h
    rw [if_pos hlen] at h
    obtain ⟨lls, h, -⟩ := Option.map_eq_some_iff.1 h
    match key, hf with
    | .agg cs, _ =>
      obtain ⟨l⟩ := cs
      replace hlen : l.length = 8 := hlen
      replace h : [0, 1, 2, 3].mapM (fun i => Tryz.prog.keyLits (m + 2) 49 ((l.drop (i * 2)).take 2)) = some lls := h
      match l, hlen with
      | [v0, v1, v2, v3, v4, v5, v6, v7], _ =>
        simp only [List.mapM_cons, List.mapM_nil, Option.bind_eq_bind, Option.bind_eq_some_iff, Option.pure_def] at h
        obtain ⟨l0, h0, l1, ⟨l2, h2, l3, ⟨l4, h4, l5, ⟨l6, h6, -⟩, -⟩, -⟩, -⟩ := h
        obtain ⟨x0, y0, e0, a0, b0, -⟩ := kl_val_inv m h0
        obtain ⟨x1, y1, e1, a1, b1, -⟩ := kl_val_inv m h2
        obtain ⟨x2, y2, e2, a2, b2, -⟩ := kl_val_inv m h4
        obtain ⟨x3, y3, e3, a3, b3, -⟩ := kl_val_inv m h6
        obtain ⟨n0, k0, rfl, rfl⟩ := ofHL a0 b0
        obtain ⟨n1, k1, rfl, rfl⟩ := ofHL a1 b1
        obtain ⟨n2, k2, rfl, rfl⟩ := ofHL a2 b2
        obtain ⟨n3, k3, rfl, rfl⟩ := ofHL a3 b3
        simp at e0 e1 e2 e3
        refine ⟨⟨n0, n1, n2, n3, k0, k1, k2, k3⟩, ?_⟩
        rw [e0.1, e0.2, e1.1, e1.2, e2.1, e2.2, e3.1, e3.2]
        rfl
  · rw [if_neg hf] at h; cases h
end Go.Proofs.YtldgjahpmlafgaaGreat
