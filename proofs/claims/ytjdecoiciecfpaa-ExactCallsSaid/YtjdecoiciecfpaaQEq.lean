/- Layer 11: '==' of points and of pairs. -/
import Derived.Test.YtjdecoiciecfpaaQIdx
import Derived.DeepKeys
import Derived.Laws.StructEq
namespace Go.Proofs.Ytjdecoiciecfpaa
open Go.RowKit Go.Maps
set_option maxRecDepth 100000 in
theorem ktPt : Try.prog.keyTypeAt 3 29 = true := by kernel_rfl
set_option maxRecDepth 100000 in
theorem ktPair : Try.prog.keyTypeAt 4 84 = true := by kernel_rfl
set_option maxRecDepth 100000 in
theorem keyTypePair : Try.prog.keyType 84 = true := by kernel_rfl
set_option maxRecDepth 100000 in
theorem szPair : Try.prog.cellsOf 84 = 9 := by kernel_rfl
set_option maxRecDepth 100000 in
theorem szInt : Try.prog.cellsOf 3 = 1 := by kernel_rfl
theorem eqI_pt (p q : Pt) (w : World) : (Op.equalIn 10000 29 (ptV p) (ptV q)).run Try.prog w = .ok (decide (p = q)) w := by
  show (Op.equal 29 (ptV p) (ptV q)).run Try.prog w = _
  obtain ⟨r, hr, hi⟩ := run_equal_deep w (by decide : 3 ≤ 10000) ktPt (by rw [Try.underlying29]) (keyPt p) (keyPt q)
  rw [hr]
  by_cases e : p = q
  · rw [decide_eq_true e, hi.2 (by rw [e])]
  · rw [decide_eq_false e]
    cases r
    · rfl
    · exact absurd (kl_inj (hi.1 rfl)) e
theorem kl_pair (d : Nat) (p : Pt) (n : Int) (hn : (Lit.int .i64 n).wf = true) : Try.prog.keyLits (d + 4) 84 (p.cells ++ [Value.int .i64 n]) = some (klp p ++ [.int .i64 n]) := by
  conv => lhs; unfold Program.keyLits
  rw [Try.underlying84]
  simp only [szPair, Pt.cells]
  simp [szPt, szInt, List.mapM_cons, kl_pt, range4, kl_val d (hib p.a) (lob p.a), kl_val d (hib p.b) (lob p.b), kl_val d (hib p.c) (lob p.c), kl_val d (hib p.d) (lob p.d), klp]
  simp [Program.keyLits, Try.underlying3, hn]
theorem keyPair (p : Pt) (n : Int) (hn : (Lit.int .i64 n).wf = true) : ∃ l, keyOf Try.prog 84 (.agg (p.cells ++ [Value.int .i64 n]).toArray) = some l := by
  obtain ⟨m, hm⟩ : ∃ m, Try.prog.types.size = m + 3 := ⟨Try.prog.types.size - 3, by have : 3 ≤ Try.prog.types.size := of_decide_eq_true (by kernel_rfl); omega⟩
  unfold keyOf
  rw [Try.underlying84]
  simp only [keyTypePair, hm, Bool.true_and, Value.formed, Value.cells, Try.underlying84, szPair]
  have e : (m + 3 + 1) = m + 4 := rfl
  rw [if_pos (by simp [Pt.cells]), e, kl_pair m p n hn]
  exact ⟨_, rfl⟩
theorem eqI_pair (p : Pt) (n : Int) (hn : (Lit.int .i64 n).wf = true) (w : World) : (Op.equalIn 10000 84 (.agg (p.cells ++ [Value.int .i64 n]).toArray) (.agg (p.cells ++ [Value.int .i64 n]).toArray)).run Try.prog w = .ok true w := by
  show (Op.equal 84 _ _).run Try.prog w = _
  obtain ⟨l, hl⟩ := keyPair p n hn
  obtain ⟨r, hr, hi⟩ := run_equal_deep w (by decide : 4 ≤ 10000) ktPair (by rw [Try.underlying84]) hl hl
  rw [hr, hi.2 rfl]
end Go.Proofs.Ytjdecoiciecfpaa
