/- append of bytes to a row of one's own: the old slice reads what it read. -/
import Derived.Test.YthfimcbjbkbcjaaWApp
import Derived.ArgAppend
namespace Go.Proofs.Ythfimcbjbkbcjaa
open Go.RowKit

theorem run_app_keep {w : World} {B D n2 cap2 n cap : Nat} {A : Option Addr} {A2 : Option Addr} {l x : List Nat} (ty : TypeId) (hO : Own w B (.slice A n cap) l) (hr : ReadsL w D A2 x) (hx : x.length = n2) (hl : l.length + n2 ≤ 100000000) (hB : B ≤ w.heap.size) :
    ∃ v' w', (Builtin.append_ #[23, 23] ty #[.slice A n cap, .slice A2 n2 cap2]).run Try.prog w = .ok v' w' ∧ Own w' B v' (l ++ x) ∧ w.grownBy w' (Value.slice A n cap).ownBlock ∧ At w (.slice A n cap) v' ∧ (l = [] ∨ ∃ g, A = some ⟨g, 0, none⟩ ∧ ReadsL w' g A l) := by
  obtain ⟨v', w', hrun, h2, h3, h4⟩ := run_app (cap2 := cap2) ty hO hr hx hl hB
  refine ⟨v', w', hrun, h2, h3, h4, ?_⟩
  obtain ⟨i0, hi0, hz0, hy1, hy2⟩ := info_parts info_w8
  by_cases hl0 : l = []
  · exact .inl hl0
  refine .inr ?_
  rcases hO.2 with ⟨he, h0⟩ | ⟨g, cp, cur, he, hg, hh, hnc, hc, hsz, htake⟩
  · exact absurd (List.eq_nil_of_length_eq_zero h0) hl0
  simp only [Value.slice.injEq] at he
  obtain ⟨rfl, rfl, rfl⟩ := he
  refine ⟨g, rfl, ?_⟩
  have hgl : g < w.heap.size := by
    rcases Nat.lt_or_ge g w.heap.size with h | h
    · exact h
    · rw [Array.getElem?_eq_none h] at hh; cases hh
  have hold : ReadsL w g (some ⟨g, 0, none⟩) l := .inr ⟨0, rfl, hgl, fun i hi => by rw [Nat.zero_add, World.ownsRow.cellAt hO i (by omega), cellsOf_get hi]⟩
  rcases A2 with _ | ad
  · have h0 : x = [] := hr.resolve_right (fun ⟨_, h, _⟩ => by cases h)
    subst h0
    obtain rfl : n2 = 0 := hx.symm
    simp [Builtin.append_, run_underlying Try.underlying23, sizeOf, typeInfo, hi0, Builtin.lenOf, Builtin.firstCells, hnc, storeCells] at hrun
    obtain ⟨rfl, rfl⟩ := hrun
    exact hold
  · have hcells : ∀ j u, (cellsOf x)[j]? = some u → w.cell? (ad.add j) = some u := by
      intro j u hu
      have hj : j < x.length := by have := (List.getElem?_eq_some_iff.1 hu).1; rwa [cellsOf_len] at this
      rcases hr with h0 | ⟨o, he, hd, hc⟩
      · rw [h0] at hj; simp at hj
      · injection he with he
        subst he
        rw [cellsOf_get hj] at hu
        rw [Addr.add_mid, hc j hj, hu]
    by_cases hroom : l.length + n2 ≤ cap
    · have hr2 := run_append_room (P := Try.prog) w 23 ty 5 i0 Try.underlying23 hi0 g l.length cap cur hh ad n2 cap2 (cellsOf x) (by rw [cellsOf_len, hx, hy1, Nat.mul_one]) hcells (cellsOf_one x) hroom (by rw [cellsOf_len, hsz, hy1, hx]; omega)
      rw [hrun] at hr2
      simp only [Result.ok.injEq] at hr2
      obtain ⟨rfl, _⟩ := hr2
      have hg2 : g < w'.heap.size := by have := h3.size; omega
      refine .inr ⟨0, rfl, hg2, fun i hi => ?_⟩
      have e : l.length + n2 = (l ++ x).length := by simp [hx]
      rw [e] at h2
      have := World.ownsRow.cellAt h2 i (by simp; omega)
      rw [Nat.zero_add, this, cellsOf_get (by simp; omega)]
      simp [List.getD, List.getElem?_append_left hi]
    · obtain ⟨v2, w2, hr2, _, hk⟩ := run_append_arg_grows (P := Try.prog) w 23 ty 5 i0 _ 1 1 Try.underlying23 hi0 hz0 hy1 hy2 rfl (by omega) ⟨g, 0, none⟩ l.length cap (cellsOf l) (by rw [cellsOf_len, Nat.mul_one]) (by
        intro j u hu
        have hj : j < l.length := by have := (List.getElem?_eq_some_iff.1 hu).1; rwa [cellsOf_len] at this
        rw [cellsOf_get hj] at hu
        rw [Addr.add_mid, Nat.zero_add, World.ownsRow.cellAt hO j (by omega), cellsOf_get hj, hu]) ad n2 cap2 (cellsOf x) (by rw [cellsOf_len, hx, Nat.mul_one]) hcells (by omega) (by unfold maxLen; omega) (by omega)
      rw [hrun] at hr2
      simp only [Result.ok.injEq] at hr2
      obtain ⟨rfl, rfl⟩ := hr2
      exact hold.kept hk (by simp)
theorem step_app_keep {w : World} {ops : Array Oper} {o : Oper} {a : Act} {K : Act → World → Prop} {Q : Exit → Act → World → Prop} {E : Prop} (hgd : o.guard = none) (s x : Operand)
    (ho : o.op = .call { callee := .builtin .append, args := #[s, x], argTypes := #[23, 23] })
    {B D n2 cap2 n cap : Nat} {A : Option Addr} {A2 : Option Addr} {l xs : List Nat} (hs : a.eval s = .slice A n cap) (hO : Own w B (.slice A n cap) l) (hx : a.eval x = .slice A2 n2 cap2) (hr : ReadsL w D A2 xs) (hxl : xs.length = n2) (hl : l.length + n2 ≤ 100000000) (hB : B ≤ w.heap.size)
    (h : ∀ v' w', Own w' B v' (l ++ xs) → w.grownBy w' (Value.slice A n cap).ownBlock → At w (.slice A n cap) v' → (l = [] ∨ ∃ g, A = some ⟨g, 0, none⟩ ∧ ReadsL w' g A l) → K (a.put o.dst v') w') :
    if Region.wanted o (yielded ops a.tmps) = true then Oper.wp Try.prog o a w K Q else E := by
  have hw : Region.wanted o (yielded ops a.tmps) = true := by simp [Region.wanted, hgd]
  rw [if_pos hw]
  obtain ⟨v', w', hrun, h2, h3, h4, h5⟩ := run_app_keep (cap2 := cap2) o.type hO hr hxl hl hB
  unfold Oper.wp execOp
  simp only [ho, resolve, invoke, builtin, Sem.run_bind, Sem.run_pure, Result.andThen_ok, List.map_toArray, List.map_cons, List.map_nil, hs, hx, hrun]
  exact h v' w' h2 h3 h4 h5
end Go.Proofs.Ythfimcbjbkbcjaa
