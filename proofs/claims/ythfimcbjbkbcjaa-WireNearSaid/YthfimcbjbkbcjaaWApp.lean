/- append of bytes that can be read (none, nil or more) to a row of one's own. -/
import Derived.Test.YthfimcbjbkbcjaaWNum
import Derived.Deep.RegionLaw
namespace Go.Proofs.Ythfimcbjbkbcjaa
open Go.RowKit

theorem Own.more {w : World} {B : Nat} {v : Value} {l x : List Nat} {n2 : Nat} (h : w.ownsRow B 5 1 v (l.length + n2) (cellsOf l ++ cellsOf x)) (hx : x.length = n2) : Own w B v (l ++ x) := by
  subst hx
  unfold Own
  rw [cellsOf_append, List.length_append]
  exact h
theorem run_app {w : World} {B D n2 cap2 : Nat} {v : Value} {A2 : Option Addr} {l x : List Nat} (ty : TypeId) (hO : Own w B v l) (hr : ReadsL w D A2 x) (hx : x.length = n2) (hl : l.length + n2 ≤ 100000000) (hB : B ≤ w.heap.size) :
    ∃ v' w', (Builtin.append_ #[23, 23] ty #[v, .slice A2 n2 cap2]).run Try.prog w = .ok v' w' ∧ Own w' B v' (l ++ x) ∧ w.grownBy w' v.ownBlock ∧ At w v v' := by
  obtain ⟨i0, hi0, hz0, hy1, hy2⟩ := info_parts info_w8
  rcases A2 with _ | ad
  · have h0 : x = [] := hr.resolve_right (fun ⟨_, h, _⟩ => by cases h)
    subst h0
    obtain rfl : n2 = 0 := hx.symm
    refine ⟨v, w, ?_, by simpa using hO, World.grownBy.refl _ _, .inl rfl⟩
    rcases hO.2 with ⟨rfl, _⟩ | ⟨g, cap, cur, rfl, _, _, hnc, _⟩
    · simp [Builtin.append_, run_underlying Try.underlying23, sizeOf, typeInfo, hi0, Builtin.lenOf, Builtin.firstCells]
    · simp [Builtin.append_, run_underlying Try.underlying23, sizeOf, typeInfo, hi0, Builtin.lenOf, Builtin.firstCells, hnc, storeCells]
  · have hcells : ∀ j u, (cellsOf x)[j]? = some u → w.cell? (ad.add j) = some u := by
      intro j u hu
      have hj : j < x.length := by have := (List.getElem?_eq_some_iff.1 hu).1; rwa [cellsOf_len] at this
      rcases hr with h0 | ⟨o, he, hd, hc⟩
      · rw [h0] at hj; simp at hj
      · injection he with he
        subst he
        rw [cellsOf_get hj] at hu
        rw [Addr.add_mid, hc j hj, hu]
    obtain ⟨v', w', hrun, h2, h3, _, h5⟩ := run_append_own_at (P := Try.prog) w B 23 ty 5 i0 _ 1 1 Try.underlying23 hi0 hz0 hy1 hy2 rfl (by omega) v l.length (cellsOf l) hO ad n2 cap2 (cellsOf x) (by rw [cellsOf_len, hx, Nat.mul_one]) hcells (cellsOf_one x) (by unfold maxLen; omega) (by omega) hB
    exact ⟨v', w', hrun, Own.more h2 hx, h3, h5.imp id fun e => ⟨_, e, Nat.le_refl _⟩⟩
theorem wpList_app {w : World} {ops : Array Oper} {rest : List Oper} {o : Oper} {a : Act} {Q : Exit → Act → World → Prop} (hgd : o.guard = none) (s x : Operand)
    (ho : o.op = .call { callee := .builtin .append, args := #[s, x], argTypes := #[23, 23] })
    {B D n2 cap2 : Nat} {v : Value} {A2 : Option Addr} {l xs : List Nat} (hs : a.eval s = v) (hO : Own w B v l) (hx : a.eval x = .slice A2 n2 cap2) (hr : ReadsL w D A2 xs) (hxl : xs.length = n2) (hl : l.length + n2 ≤ 100000000) (hB : B ≤ w.heap.size)
    (h : ∀ v' w', Own w' B v' (l ++ xs) → w.grownBy w' v.ownBlock → At w v v' → wpList Try.prog ops Q rest (a.put o.dst v') w') : wpList Try.prog ops Q (o :: rest) a w := by
  refine wpList_plain hgd fun K hK => ?_
  obtain ⟨v', w', hrun, h2, h3, h4⟩ := run_app (cap2 := cap2) o.type hO hr hxl hl hB
  unfold Oper.wp execOp
  simp only [ho, resolve, invoke, builtin, Sem.run_bind, Sem.run_pure, Result.andThen_ok, List.map_toArray, List.map_cons, List.map_nil, hs, hx, hrun]
  exact hK _ _ (h v' w' h2 h3 h4)
theorem step_app {w : World} {ops : Array Oper} {o : Oper} {a : Act} {K : Act → World → Prop} {Q : Exit → Act → World → Prop} {E : Prop} (hgd : o.guard = none) (s x : Operand)
    (ho : o.op = .call { callee := .builtin .append, args := #[s, x], argTypes := #[23, 23] })
    {B D n2 cap2 : Nat} {v : Value} {A2 : Option Addr} {l xs : List Nat} (hs : a.eval s = v) (hO : Own w B v l) (hx : a.eval x = .slice A2 n2 cap2) (hr : ReadsL w D A2 xs) (hxl : xs.length = n2) (hl : l.length + n2 ≤ 100000000) (hB : B ≤ w.heap.size)
    (h : ∀ v' w', Own w' B v' (l ++ xs) → w.grownBy w' v.ownBlock → At w v v' → K (a.put o.dst v') w') :
    if Region.wanted o (yielded ops a.tmps) = true then Oper.wp Try.prog o a w K Q else E := by
  have hw : Region.wanted o (yielded ops a.tmps) = true := by simp [Region.wanted, hgd]
  rw [if_pos hw]
  obtain ⟨v', w', hrun, h2, h3, h4⟩ := run_app (cap2 := cap2) o.type hO hr hxl hl hB
  unfold Oper.wp execOp
  simp only [ho, resolve, invoke, builtin, Sem.run_bind, Sem.run_pure, Result.andThen_ok, List.map_toArray, List.map_cons, List.map_nil, hs, hx, hrun]
  exact h v' w' h2 h3 h4
end Go.Proofs.Ythfimcbjbkbcjaa
