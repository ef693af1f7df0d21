/- The reference's indexes of elements. -/
import Derived.Test.YthldelnibgdnaaaSMake
import Derived.Test.YthldelnibgdnaaaGPre
namespace Go.Proofs.Ythldelnibgdnaaa
open Go.RowKit

theorem info_intM : (Try.prog.info? 3).map (fun i => (i.zero, i.size, i.bytes)) = some (some (.int .i64 0), 1, 8) := by kernel_rfl
theorem own_belowG {w w' : World} {B e sz n : Nat} {v : Value} {l : List Value} (h : w.ownsRow B e sz v n l) (hb : Below w.heap.size w w') : w'.ownsRow B e sz v n l :=
  World.ownsRow.kept h (row := none) ⟨hb.os, hb.tape, hb.output, hb.size, fun k hk _ => hb.block k hk⟩ (by cases v.ownBlock <;> simp)
theorem own_block_geG {w : World} {B e sz n k : Nat} {v : Value} {l : List Value} (h : w.ownsRow B e sz v n l) (hk : v.ownBlock = some k) : B ≤ k := (World.ownsRow.lt h k hk).1
def intCells (l : List Int) : List Value := l.map fun x => .int .i64 x
theorem int_flat (l : List Int) : flat (fun x : Int => [Value.int .i64 x]) l = intCells l := by
  unfold flat intCells
  rw [List.map_eq_flatMap]
theorem int_own {w : World} {v : Value} {Z n : Nat} {l : List Int} (hn : n = l.length) (h : w.ownsRow Z 3 1 v n (intCells (l.take n))) (hI : ∀ x ∈ l, I64 x) : RowH 1 I64V Z w.heap.size w v l := by
  subst hn
  rw [List.take_length] at h
  exact rowH_of_own (enc := fun x : Int => [Value.int .i64 x]) (fun _ => rfl) (Nat.le_refl _) (Nat.le_refl _) (fun x hx _ _ _ _ => ⟨rfl, hI x hx⟩) (by rw [int_flat]; exact h)
theorem take_ids {α : Type} {f : α → Int} {xs : List α} {k : Nat} {x : α} (h : xs[k]? = some x) : intCells (((xs.map f).take (k + 1))) = intCells ((xs.map f).take k) ++ [.int .i64 (f x)] := by
  obtain ⟨a, b⟩ := List.getElem?_eq_some_iff.1 h
  rw [List.take_succ_eq_append_getElem (by rw [List.length_map]; exact a)]
  simp [intCells, b]
def RetIds (fs : List FieldD) (hs : List HeaderD) (ss : List StateD) (acs : List ActionD) (ts : List TableD) (rs : List RoleD) (w : World) (en : Ending) (w' : World) : Prop := ∃ v0 v1 v2 v3 v4 v5 : Value, en = .returned (.agg #[v0, v1, v2, v3, v4, v5]) ∧ RowV 1 I64V w'.heap.size w' v0 (fs.map (·.id)) ∧ RowV 1 I64V w'.heap.size w' v1 (hs.map (·.id)) ∧ RowV 1 I64V w'.heap.size w' v2 (ss.map (·.id)) ∧ RowV 1 I64V w'.heap.size w' v3 (acs.map (·.id)) ∧ RowV 1 I64V w'.heap.size w' v4 (ts.map (·.id)) ∧ RowV 1 I64V w'.heap.size w' v5 (rs.map (·.id)) ∧ Below w.heap.size w w'
end Go.Proofs.Ythldelnibgdnaaa
